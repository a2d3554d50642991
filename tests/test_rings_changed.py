"""Promises 10 and 11: `joined`, `left`, `ruled`, and the errors of a ring's methods ([4], interface)."""

import unittest

from ringshares.errors import (
    InvalidMarks, InvalidName, InvalidNumber, InvalidPending, NoRoom, UnknownName,
)
from ringshares.rings import Ring
from tests.support import (
    APART_TEXT, NO_NAMES, ODD_VALUES, PLAIN_HOSTS, PLAIN_TEXT, assert_raises_with, full_hosts, mixed_rings,
    plain_ring,
)


class Changed(unittest.TestCase):
    def test_the_example_of_the_document(self):
        told = str(plain_ring().left("b").joined("d", "r2", (0, 4)))
        self.assertEqual(told, "ring 12 2 hosts 1 2 with\nhost a r1 2\nhost c r2 9\nhost d r2 0 4")
        self.assertEqual(Ring.read(APART_TEXT) == plain_ring(), False)

    def test_joined_puts_a_host_behind_the_others(self):
        for ring in mixed_rings():
            text = str(ring)
            taken = [mark for _, _, marks in ring.hosts for mark in marks]
            free = [point for point in range(ring.points) if point not in taken][:16]
            if len(ring) < 12 and free:
                host = ("aa", "r1", tuple(free))
                for more in (ring.joined(*host), ring.joined(marks=host[2], rack=host[1], name=host[0])):
                    self.assertEqual(str(more), text + "\nhost aa r1 " + " ".join(str(mark) for mark in free))
                    self.assertEqual(more.hosts, ring.hosts + (host,))
                    self.assertEqual(more.left("aa"), ring)
                self.assertEqual(str(ring), text)

    def test_left_takes_a_host_away(self):
        for ring in mixed_rings():
            text = str(ring)
            for k, host in enumerate(ring.hosts):
                if len(ring) > 1:
                    rows = text.split("\n")
                    for less in (ring.left(host[0]), ring.left(name=host[0])):
                        self.assertEqual(str(less), "\n".join(rows[:k + 1] + rows[k + 2:]))
            self.assertEqual(str(ring), text)

    def test_ruled_changes_the_three_rules(self):
        hosts = tuple(reversed(PLAIN_HOSTS))
        for factor in range(1, 6):
            for spread in ("hosts", "racks"):
                ring = Ring(12, factor, spread, factor, 1, "plain", hosts)
                text = str(ring)
                for write in range(1, factor + 1):
                    for read in range(1, factor + 1):
                        for pending in ("plain", "with"):
                            told = Ring(12, factor, spread, write, read, pending, hosts)
                            self.assertEqual(ring.ruled(write, read, pending), told)
                            self.assertEqual(ring.ruled(pending=pending, read=read, write=write), told)
                self.assertEqual(str(ring), text)

    def test_up_to_twelve_hosts_and_sixteen_marks(self):
        ring = Ring(200, 3, "racks", 2, 2, "with", full_hosts()[:11])
        full = ring.joined("last", "r9", tuple(range(21, 29)) + tuple(range(181, 189)))
        self.assertEqual((len(full), len(full["last"][1])), (12, 16))
        self.assertEqual(full.left("last"), ring)


class Refused(unittest.TestCase):
    def setUp(self):
        self.ring = plain_ring()

    def tearDown(self):
        self.assertEqual(str(self.ring), PLAIN_TEXT)

    def assert_join_refused(self, ring, error, value, name, rack, marks):
        assert_raises_with(self, error, "given", value, ring.joined, name, rack, marks)
        assert_raises_with(self, error, "given", value, ring.joined, name=name, rack=rack, marks=marks)

    def test_unknown_names(self):
        for value in NO_NAMES + ("d", "aa", "r1", "hosts", 10 ** 39):
            assert_raises_with(self, UnknownName, "given", value, self.ring.__getitem__, value)
            with self.assertRaises(UnknownName):
                self.ring[value]
            assert_raises_with(self, UnknownName, "given", value, self.ring.left, value)
            assert_raises_with(self, UnknownName, "given", value, self.ring.left, name=value)

    def test_names_of_hosts_cannot_join(self):
        for name in ("a", "b", "c"):
            self.assert_join_refused(self.ring, InvalidName, name, name, "r1", (0,))
        self.assertEqual(self.ring.joined("d", "a", (0,))["d"], ("a", (0,)))

    def test_marks_that_no_host_can_have(self):
        for marks in ODD_VALUES + (
            0, "0", [0], (2,), (0, 5), (9, 10), (0, 0), (1, 0), (-1,), (12,), (0, 12), (True,), (0, True), (None,),
            (0, "1"), ((0,),), tuple(range(17)), (10 ** 18,),
        ):
            self.assert_join_refused(self.ring, InvalidMarks, marks, "d", "r2", marks)
        wide = Ring(100, 1, "hosts", 1, 1, "plain", (("a", "r", (50,)),))
        seventeen = tuple(range(17))
        self.assert_join_refused(wide, InvalidMarks, seventeen, "d", "r2", seventeen)
        self.assertEqual(wide.joined("d", "r2", seventeen[1:])["d"], ("r2", seventeen[1:]))

    def test_no_room_for_a_thirteenth_host(self):
        full = Ring(200, 3, "racks", 2, 2, "with", full_hosts())
        self.assert_join_refused(full, NoRoom, "h12", "h12", "r", (5,))

    def test_joined_looks_at_its_parameters_in_order(self):
        full = Ring(200, 3, "racks", 2, 2, "with", full_hosts())
        for ring, known in ((self.ring, "a"), (full, "h3")):
            name, rack, marks = ["n"], ["r"], [5]
            self.assert_join_refused(ring, InvalidName, name, name, rack, marks)
            self.assert_join_refused(ring, InvalidName, known, known, rack, marks)
            self.assert_join_refused(ring, InvalidName, name, name, "r", (5,))
            self.assert_join_refused(ring, InvalidName, rack, "new", rack, marks)
            self.assert_join_refused(ring, InvalidName, rack, "new", rack, (5,))
            self.assert_join_refused(ring, InvalidMarks, marks, "new", "r", marks)

    def test_the_only_host_cannot_leave(self):
        only = Ring(5, 2, "hosts", 1, 1, "plain", (("a", "r", (0, 3)),))
        assert_raises_with(self, NoRoom, "given", "a", only.left, "a")
        assert_raises_with(self, NoRoom, "given", "a", only.left, name="a")
        for value in ("b", "r", None, ["a"]):
            assert_raises_with(self, UnknownName, "given", value, only.left, value)

    def assert_rules_refused(self, error, value, write, read, pending):
        assert_raises_with(self, error, "given", value, self.ring.ruled, write, read, pending)
        assert_raises_with(self, error, "given", value, self.ring.ruled, write=write, read=read, pending=pending)

    def test_rules_that_no_ring_has(self):
        for value in ODD_VALUES + (0, -1, 3, 5, 6, 10 ** 39, "1"):
            self.assert_rules_refused(InvalidNumber, value, value, 1, "plain")
            self.assert_rules_refused(InvalidNumber, value, 1, value, "plain")
        for value in ODD_VALUES + ("Plain", "with ", "hosts", 0, 1):
            self.assert_rules_refused(InvalidPending, value, 1, 1, value)

    def test_ruled_looks_at_its_parameters_in_order(self):
        write, read, pending = [1], [2], ["plain"]
        self.assert_rules_refused(InvalidNumber, write, write, read, pending)
        self.assert_rules_refused(InvalidNumber, write, write, 1, pending)
        self.assert_rules_refused(InvalidNumber, write, write, read, "with")
        self.assert_rules_refused(InvalidNumber, read, 1, read, pending)


if __name__ == "__main__":
    unittest.main()
