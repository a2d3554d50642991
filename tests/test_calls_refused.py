"""Promises 5 and 9 of stage 2: the errors of cells, likeness and falls ([4], interface)."""

import unittest

from ringshares import errors
from ringshares.cells import best_mark, cells, common_cells, greatest, kept, leads, shares
from ringshares.errors import InvalidKind, InvalidNumber, NoRoom, NotARing, OtherPoints, UnknownName
from ringshares.falls import bears, breach
from ringshares.likeness import alien_arcs, alike, kin, moved, moves, unlike_arcs
from ringshares.rings import Ring
from tests.support import (
    APART_TEXT, NAMES, NO_NAMES, ODD_VALUES, PLAIN_TEXT, assert_raises_with, full_hosts, plain_ring,
)

NO_RINGS = tuple(value for value in NO_NAMES + NAMES if not isinstance(value, Ring)) + (
    PLAIN_TEXT, plain_ring().hosts, (plain_ring(),), [plain_ring()],
)
OF_ONE_RING = (cells, shares, greatest)
OF_A_HOST = (kept, leads, best_mark)
OF_TWO_RINGS = (common_cells, unlike_arcs, alien_arcs, alike, kin, moves, moved)
OF_FALLS = (bears, breach)
BASES = (
    (errors.BadValue, (NotARing, OtherPoints, InvalidKind, InvalidNumber)),
    (errors.BadName, (UnknownName,)),
    (errors.NoAnswer, (NoRoom,)),
)


def full_ring():
    """Returns a ring all of whose points are marks; h0 has sixteen of them, h1 one."""
    return Ring(17, 1, "hosts", 1, 1, "plain", (("h0", "r", tuple(range(16))), ("h1", "r", (16,))))


class OneRing(unittest.TestCase):
    def test_what_is_no_ring(self):
        for value in NO_RINGS:
            for call in OF_ONE_RING:
                assert_raises_with(self, NotARing, "given", value, call, value)
                assert_raises_with(self, NotARing, "given", value, call, ring=value)
            for call in OF_A_HOST:
                for name in ("a", "zz", None):
                    assert_raises_with(self, NotARing, "given", value, call, value, name)
                    assert_raises_with(self, NotARing, "given", value, call, name=name, ring=value)

    def test_what_is_no_name_of_a_host(self):
        for ring in (plain_ring(), Ring.read(APART_TEXT), full_ring()):
            for value in NO_NAMES + ("d", "zz", "aa", "r1", "h12", "host", ("a",), ["a"], {"a": 1}):
                for call in OF_A_HOST:
                    assert_raises_with(self, UnknownName, "given", value, call, ring, value)
                    assert_raises_with(self, UnknownName, "given", value, call, name=value, ring=ring)

    def test_no_room_for_a_mark(self):
        sixteen = Ring(100, 2, "racks", 1, 1, "plain", (("a", "r", tuple(range(16))), ("b", "r", (99,))))
        fifteen = Ring(100, 2, "racks", 1, 1, "plain", (("a", "r", tuple(range(15))), ("b", "r", (99,))))
        rows = (
            (sixteen, "a"), (full_ring(), "h0"), (full_ring(), "h1"),
            (Ring(1, 1, "hosts", 1, 1, "plain", (("a", "r", (0,)),)), "a"),
            (Ring(2, 1, "hosts", 1, 1, "plain", (("a", "r", (0, 1)),)), "a"),
            (Ring(3, 1, "hosts", 1, 1, "plain", (("a", "r", (0, 2)), ("bb", "r", (1,)))), "bb"),
        )
        for ring, name in rows:
            assert_raises_with(self, NoRoom, "given", name, best_mark, ring, name)
            assert_raises_with(self, NoRoom, "given", name, best_mark, name=name, ring=ring)
        for ring, name in ((sixteen, "b"), (fifteen, "a"), (fifteen, "b")):
            self.assertEqual(best_mark(ring, name)[1], 100)


class TwoRings(unittest.TestCase):
    def test_what_is_no_ring(self):
        for value in NO_RINGS:
            for call in OF_TWO_RINGS:
                for other in (plain_ring(), full_ring(), None, "a"):
                    assert_raises_with(self, NotARing, "given", value, call, value, other)
                    assert_raises_with(self, NotARing, "given", value, call, other=other, one=value)
                assert_raises_with(self, NotARing, "given", value, call, plain_ring(), value)
                assert_raises_with(self, NotARing, "given", value, call, other=value, one=plain_ring())

    def test_other_points_are_told_with_the_second_ring(self):
        ring = plain_ring()
        for points in (10, 11, 13, 24, 10 ** 18):
            other = Ring(points, 2, "hosts", 1, 2, "with", ring.hosts)
            for call in OF_TWO_RINGS:
                assert_raises_with(self, OtherPoints, "given", other, call, ring, other)
                assert_raises_with(self, OtherPoints, "given", ring, call, other, ring)
                assert_raises_with(self, OtherPoints, "given", other, call, other=other, one=ring)


class Falls(unittest.TestCase):
    def assert_refused(self, error, value, *values):
        for call in OF_FALLS:
            assert_raises_with(self, error, "given", value, call, *values)
            assert_raises_with(self, error, "given", value, call, **dict(zip(("ring", "kind", "down", "left"), values)))

    def test_what_is_no_ring(self):
        for value in NO_RINGS:
            self.assert_refused(NotARing, value, value, "hosts", 1, 1)
            self.assert_refused(NotARing, value, value, None, None, None)

    def test_what_is_no_kind(self):
        for value in NO_NAMES + ("host", "rack", "Hosts", "racks ", "hosts\n", "plain", "hostsracks", ("hosts",)):
            self.assert_refused(InvalidKind, value, plain_ring(), value, 1, 1)
            self.assert_refused(InvalidKind, value, plain_ring(), value, -1, None)

    def test_what_is_no_number(self):
        for value in ODD_VALUES + (-1, 13, 14, 100, 10 ** 39, -10 ** 39, "1", "0"):
            self.assert_refused(InvalidNumber, value, plain_ring(), "hosts", value, 1)
            self.assert_refused(InvalidNumber, value, plain_ring(), "racks", value, "x")
        for value in ODD_VALUES + (-1, 6, 7, 12, 10 ** 39, -10 ** 39, "1", "0"):
            self.assert_refused(InvalidNumber, value, plain_ring(), "hosts", 12, value)
            self.assert_refused(InvalidNumber, value, plain_ring(), "racks", 0, value)

    def test_numbers_at_their_bounds(self):
        ring = Ring(111, 5, "racks", 5, 5, "plain", full_hosts())
        for kind in ("hosts", "racks"):
            told = [bears(ring, kind, down, left) for down in (0, 12) for left in (0, 5)]
            self.assertEqual(told, [True, True, True, False])


class Classes(unittest.TestCase):
    def test_each_belongs_to_its_base_class(self):
        for base, classes in BASES:
            for error in classes:
                self.assertTrue(issubclass(error, base))
                for other, _ in BASES:
                    self.assertEqual(issubclass(error, other), other == base)

    def test_rings_stay_as_they_were(self):
        ring = plain_ring()
        for call in OF_A_HOST:
            self.assertRaises(UnknownName, call, ring, "zz")
        self.assertRaises(OtherPoints, moves, ring, full_ring())
        self.assertRaises(InvalidKind, bears, ring, "x", 1, 1)
        self.assertEqual(str(ring), PLAIN_TEXT)


if __name__ == "__main__":
    unittest.main()
