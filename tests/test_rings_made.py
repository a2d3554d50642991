"""Promises 3 and 8: rings as they are made, and compared ([5], [6], interface)."""

import unittest

from ringshares.rings import Ring
from tests.support import NO_NAMES, PLAIN_HOSTS, PLAIN_TEXT, Other, full_hosts, mixed_rings, plain_ring

MOST = 10 ** 18
ARGUMENTS = ("points", "factor", "spread", "write", "read", "pending", "hosts")
PROPERTIES = ("points", "factor", "spread", "write", "read_number", "pending", "hosts")

SIXTEEN = tuple(range(0, 32, 2))

MADE = (
    (12, 2, "hosts", 1, 2, "with", PLAIN_HOSTS),
    (12, 2, "racks", 2, 1, "plain", (("c", "r2", (9,)), ("a", "r1", (2,)), ("b", "r1", (5,)))),
    (1, 1, "hosts", 1, 1, "plain", (("a", "a", (0,)),)),
    (MOST, 5, "racks", 5, 5, "with", (("b", "r", (0, MOST - 1)), ("a", "b", (1, MOST - 2)))),
    (111, 5, "hosts", 3, 4, "plain", full_hosts()),
    (32, 3, "racks", 1, 3, "with", (("z", "r", SIXTEEN), ("y", "r", tuple(k + 1 for k in SIXTEEN)))),
    (192, 4, "hosts", 4, 1, "plain", tuple((f"h{k}", "r", tuple(range(k, 192, 12))) for k in range(12))),
    (5, 5, "hosts", 1, 5, "plain", (("a", "r", (0, 1, 2, 3, 4)),)),
)


class Made(unittest.TestCase):
    def assert_has(self, ring, values):
        for name, value in zip(PROPERTIES, values):
            self.assertEqual(getattr(ring, name), value)
            self.assertIs(type(getattr(ring, name)), type(value))
        hosts = values[-1]
        self.assertEqual(ring.names, tuple(sorted(host[0] for host in hosts)))
        self.assertIs(type(ring.names), tuple)
        self.assertEqual(len(ring), len(hosts))
        self.assertIs(bool(ring), True)
        for name, rack, marks in hosts:
            self.assertEqual(ring[name], (rack, marks))
            self.assertIs(name in ring, True)
            self.assertIs(name not in ring, False)
        for name in ("q", "h12", "hosts", "host", "aa"):
            self.assertIs(name in ring, False)

    def test_by_position_by_name_and_from_their_texts(self):
        for values in MADE:
            ring = Ring(*values)
            self.assert_has(ring, values)
            named = Ring(**dict(reversed(list(zip(ARGUMENTS, values)))))
            self.assert_has(named, values)
            self.assert_has(Ring.read(str(ring)), values)
            self.assert_has(Ring.read(text=str(named)), values)

    def test_hosts_are_the_tuple_that_was_passed(self):
        for values in MADE:
            self.assertIs(Ring(*values).hosts, values[-1])

    def test_each_rule_in_its_bounds(self):
        for factor in range(1, 6):
            for write in range(1, factor + 1):
                for read in range(1, factor + 1):
                    for spread in ("hosts", "racks"):
                        for pending in ("plain", "with"):
                            values = (12, factor, spread, write, read, pending, PLAIN_HOSTS)
                            self.assert_has(Ring(*values), values)

    def test_names_ascend_as_strings_do(self):
        names = ("b", "a10", "a9", "a", "z", "ab", "b0")
        hosts = tuple((name, "r", (k,)) for k, name in enumerate(names))
        ring = Ring(7, 1, "hosts", 1, 1, "plain", hosts)
        self.assertEqual(ring.names, ("a", "a10", "a9", "ab", "b", "b0", "z"))

    def test_rings_of_the_document(self):
        plain = plain_ring()
        self.assertEqual((plain.names, plain["c"]), (("a", "b", "c"), ("r2", (9,))))
        self.assertEqual(str(plain), PLAIN_TEXT)
        self.assertEqual(str(Ring.read(PLAIN_TEXT)), PLAIN_TEXT)

    def test_attributes_are_not_assigned(self):
        ring = plain_ring()
        for name in PROPERTIES + ("names",):
            self.assertRaises(AttributeError, setattr, ring, name, 1)


class Compared(unittest.TestCase):
    def assert_equal_is(self, one, other, equal):
        self.assertIs(one == other, equal)
        self.assertIs(other == one, equal)
        self.assertIs(one != other, not equal)
        self.assertIs(other != one, not equal)

    def test_equal_exactly_if_their_texts_are(self):
        rings = [Ring(*values) for values in MADE] + mixed_rings()
        again = [Ring.read(str(ring)) for ring in rings]
        for one in rings:
            for other in again:
                self.assert_equal_is(one, other, str(one) == str(other))

    def test_each_difference_by_itself(self):
        base = (12, 3, "hosts", 2, 2, "with", PLAIN_HOSTS)
        (a, b, c) = PLAIN_HOSTS
        changes = (
            (0, (11, 13, MOST)), (1, (2, 4, 5)), (2, ("racks",)), (3, (1, 3)), (4, (1, 3)), (5, ("plain",)),
            (6, (
                (a, b), (a, c, b), (b, a, c), (c, b, a), (a, b, c, ("d", "r2", (0,))),
                (("d", "r1", (2,)), b, c), (("a", "r3", (2,)), b, c), (("a", "r1", (3,)), b, c),
                (("a", "r1", (2, 3)), b, c), (("a", "r1", (1, 2)), b, c), (a, b, ("c", "r2", (9, 10))),
            )),
        )
        ring = Ring(*base)
        self.assert_equal_is(ring, ring, True)
        self.assert_equal_is(ring, Ring(*base), True)
        for place, values in changes:
            for value in values:
                other = Ring(*base[:place], value, *base[place + 1:])
                self.assert_equal_is(ring, other, False)
                self.assertNotEqual(str(ring), str(other))

    def test_values_of_other_classes(self):
        ring = plain_ring()
        others = (str(ring), ring.hosts, ring.names, len(ring), True, Other, Other(), [ring], (ring,), MADE[0])
        for value in others + tuple(value for value in NO_NAMES if not isinstance(value, Ring)):
            self.assertIs(ring == value, False)
            self.assertIs(ring != value, True)
            if value.__class__.__name__ != "EqualToAll":
                self.assertIs(value == ring, False)
                self.assertIs(value != ring, True)


if __name__ == "__main__":
    unittest.main()
