"""Promises 9 and 12: walks and keepers ([7], [8]), and what joins do to them ([2], [15])."""

import unittest

from ringshares.errors import InvalidPoint
from ringshares.rings import Ring
from tests.support import (
    APART_TEXT, ODD_VALUES, Numbers, assert_raises_with, full_hosts, mixed_hosts, mixed_rings, plain_keepers,
    plain_ring, plain_walk,
)

MOST = 10 ** 18


class Walks(unittest.TestCase):
    def test_the_examples_of_the_document(self):
        plain = plain_ring()
        self.assertEqual(plain.walk(0), ("a", "b", "c"))
        self.assertEqual([plain.keepers(key) for key in (0, 2, 3, 10)],
                         [("a", "b"), ("a", "b"), ("b", "c"), ("a", "b")])
        apart = Ring.read(APART_TEXT)
        self.assertEqual([apart.keepers(key) for key in (0, 3, 6)], [("a", "c"), ("b", "c"), ("c", "a")])

    def test_at_marks_behind_them_and_round_the_end(self):
        ring = Ring(10, 2, "hosts", 1, 1, "plain", (("a", "r", (0, 5)), ("b", "r", (9,)), ("c", "r", (6,))))
        told = [(0, "acb"), (1, "acb"), (5, "acb"), (6, "cba"), (7, "bac"), (9, "bac")]
        for key, names in told:
            self.assertEqual(ring.walk(key), tuple(names))
            self.assertEqual(ring.keepers(point=key), tuple(names[:2]))

    def test_racks_first_and_then_the_others(self):
        hosts = (("a", "x", (0,)), ("b", "x", (1,)), ("c", "y", (2,)), ("d", "x", (3,)), ("e", "y", (4,)),
                 ("f", "z", (5,)))
        for factor, names in ((1, "a"), (2, "ac"), (3, "acf"), (4, "acfb"), (5, "acfbd")):
            ring = Ring(6, factor, "racks", 1, 1, "plain", hosts)
            self.assertEqual(ring.keepers(0), tuple(names))
            self.assertEqual(ring.walk(0), tuple("abcdef"))

    def test_every_key_against_a_plain_walk(self):
        for ring in mixed_rings():
            for key in range(ring.points):
                self.assertEqual(ring.walk(point=key), plain_walk(ring, key))
                self.assertEqual(ring.keepers(key), plain_keepers(ring, key))

    def test_all_hosts_keep_where_there_are_fewer_than_the_factor(self):
        for spread in ("hosts", "racks"):
            ring = Ring(12, 5, spread, 5, 5, "plain", plain_ring().hosts)
            self.assertEqual(sorted(ring.keepers(7)), ["a", "b", "c"])
        one = Ring(1, 5, "racks", 1, 1, "plain", (("a", "r", (0,)),))
        self.assertEqual((one.walk(0), one.keepers(0)), (("a",), ("a",)))

    def test_on_rings_of_many_points(self):
        numbers = Numbers(7)
        for many in (1, 2, 5, 10):
            for spread in ("hosts", "racks"):
                hosts = mixed_hosts(numbers, 10, many, 3, 3)
                small = Ring(10, 1 + numbers.below(5), spread, 1, 1, "plain", hosts)
                self.assert_wide_is_like(small, 10 ** 17)

    def assert_wide_is_like(self, small, width):
        """Holds a ring against the one in which each point is so many, a mark the last of them."""
        hosts = tuple((name, rack, tuple(mark * width + width - 1 for mark in marks))
                      for name, rack, marks in small.hosts)
        wide = Ring(small.points * width, small.factor, small.spread, 1, 1, "plain", hosts)
        for key in range(small.points):
            for more in (0, 1, width // 2, width - 2, width - 1):
                self.assertEqual(wide.walk(key * width + more), small.walk(key))
                self.assertEqual(wide.keepers(key * width + more), small.keepers(key))

    def test_neighbours_on_a_ring_of_most_points(self):
        hosts = (("a", "r", (0, 2)), ("b", "r", (1,)), ("c", "s", (MOST - 1,)))
        ring = Ring(MOST, 2, "racks", 1, 1, "plain", hosts)
        for key, names in ((0, "abc"), (1, "bac"), (2, "acb"), (3, "cab"), (MOST // 2, "cab"), (MOST - 1, "cab")):
            self.assertEqual(ring.walk(key), tuple(names))
        self.assertEqual([ring.keepers(key) for key in (0, 1, 2, 3)],
                         [("a", "c"), ("b", "c"), ("a", "c"), ("c", "a")])

    def test_tuples_of_names(self):
        ring = plain_ring()
        self.assertIs(type(ring.walk(0)), tuple)
        self.assertIs(type(ring.keepers(0)), tuple)
        self.assertIs(type(Ring.read(APART_TEXT).keepers(0)), tuple)


class Points(unittest.TestCase):
    def test_what_is_no_key_of_the_ring(self):
        for ring in (plain_ring(), Ring.read(APART_TEXT), Ring(MOST, 1, "hosts", 1, 1, "plain", full_hosts())):
            outside = (-1, -MOST, ring.points, ring.points + 1, 10 ** 39, "0", "7", (0,), [7])
            for value in outside + ODD_VALUES:
                for call in (ring.walk, ring.keepers):
                    assert_raises_with(self, InvalidPoint, "given", value, call, value)
                    assert_raises_with(self, InvalidPoint, "given", value, call, point=value)

    def test_the_least_and_the_greatest_key(self):
        ring = Ring(MOST, 1, "hosts", 1, 1, "plain", full_hosts())
        self.assertEqual((ring.keepers(0), ring.keepers(MOST - 1)), (("h0",), ("h0",)))


class Joins(unittest.TestCase):
    def assert_join_takes_one_place(self, ring, later, key):
        before, behind = ring.keepers(key), later.keepers(key)
        self.assertLessEqual(set(behind) - set(before), {"new"})
        self.assertLessEqual(len(set(before) - set(behind)), 1)
        if len(ring) >= ring.factor:
            self.assertEqual(len(behind), ring.factor)
        self.assertEqual(tuple(name for name in later.walk(key) if name != "new"), ring.walk(key))

    def test_each_key_loses_one_keeper_at_most(self):
        numbers = Numbers(12)
        for ring in mixed_rings():
            taken = [mark for _, _, marks in ring.hosts for mark in marks]
            free = [point for point in range(ring.points) if point not in taken]
            if len(ring) == 12 or not free:
                continue
            for rack in ("r0", "r1", "other"):
                many = 1 + numbers.below(min(len(free), 16))
                later = ring.joined("new", rack, tuple(sorted(numbers.chosen(free, many))))
                for key in range(ring.points):
                    self.assert_join_takes_one_place(ring, later, key)

    def test_a_join_of_the_document(self):
        more = plain_ring().joined("d", "r2", (0,))
        self.assertEqual([more.keepers(key) for key in (0, 1, 3, 6, 10)],
                         [("d", "a"), ("a", "b"), ("b", "c"), ("c", "d"), ("d", "a")])


if __name__ == "__main__":
    unittest.main()
