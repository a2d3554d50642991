"""Promise 8 of stage 2: which falls of hosts and racks a ring bears ([16], [17], interface)."""

import unittest

from ringshares.falls import bears, breach
from ringshares.rings import Ring
from tests.models import MOST, homes_of, least_up, small_rings, table, widened
from tests.support import APART_TEXT, full_hosts, plain_ring

KINDS = ("hosts", "racks")
WIDTH = 10 ** 16


class Falls(unittest.TestCase):
    def test_the_examples_of_the_document(self):
        plain, apart = plain_ring(), Ring.read(APART_TEXT)
        self.assertEqual([bears(plain, "hosts", 1, 1), bears(plain, "racks", 1, 1)], [True, False])
        self.assertEqual([bears(apart, "racks", 1, 1), breach(apart, "hosts", 1, 1)], [True, None])

    def assert_breach(self, ring, kind, down, left):
        """Holds that what is told shows a key that does not bear it."""
        told = breach(ring, kind, down, left)
        self.assertEqual(breach(left=left, down=down, kind=kind, ring=ring), told)
        self.assertEqual((type(told), len(told), type(told[0]), type(told[1])), (tuple, 2, int, tuple))
        key, names = told
        homes = homes_of(ring, kind)
        self.assertTrue(set(names) <= set(homes.values()))
        self.assertLessEqual(len(names), down)
        self.assertEqual(list(names), sorted(set(names)))
        self.assertLess(sum(homes[name] not in names for name in ring.keepers(key)), left)

    def assert_falls(self, ring, kind, down, up):
        """Holds what is told of a ring of whose keepers so many are up for some key at worst."""
        for left in range(6):
            self.assertIs(bears(ring, kind, down, left), left <= up)
            self.assertIs(bears(left=left, down=down, kind=kind, ring=ring), left <= up)
            if left <= up:
                self.assertIsNone(breach(ring, kind, down, left))
            else:
                self.assert_breach(ring, kind, down, left)

    def test_all_lots_tried(self):
        found = set()
        for ring in small_rings()[::2]:
            for kind in KINDS:
                for down in range(13):
                    up = least_up(ring, kind, down)
                    self.assert_falls(ring, kind, down, up)
                    found.add((kind, up))
        self.assertEqual(found, {(kind, up) for kind in KINDS for up in range(6)})

    def test_rings_of_many_points(self):
        for ring in small_rings()[1::6]:
            for kind in KINDS:
                for down in (0, 1, 2, 3, 12):
                    self.assert_falls(widened(ring, WIDTH), kind, down, least_up(ring, kind, down))

    def test_fewer_hosts_or_racks_than_down(self):
        ring = Ring(12, 5, "racks", 1, 1, "plain", plain_ring().hosts)
        self.assertEqual([bears(ring, "hosts", down, 1) for down in (2, 3, 4, 12)], [True, False, False, False])
        self.assertEqual([bears(ring, "racks", down, 1) for down in (1, 2, 3, 12)], [True, False, False, False])
        for kind in KINDS:
            self.assertIs(bears(ring, kind, 12, 0), True)
            self.assert_breach(ring, kind, 12, 1)

    def test_fewer_keepers_than_left_with_none_down(self):
        for factor in range(1, 6):
            ring = Ring(MOST, factor, "racks", 1, 1, "plain", full_hosts()[:3])
            for kind in KINDS:
                self.assert_falls(ring, kind, 0, min(factor, 3))

    def test_one_key_of_all_is_enough(self):
        # Only the keys from 3 to 5 have keepers in one rack alone.
        hosts = (("a", "x", (2,)), ("b", "y", (5,)), ("c", "y", (9,)), ("d", "x", (11,)), ("e", "z", (0,)))
        ring = Ring(12, 2, "hosts", 1, 1, "plain", hosts)
        keys = [key for key in range(12) if table(ring)[key] == ("b", "c")]
        self.assertEqual(keys, [3, 4, 5])
        key, names = breach(ring, "racks", 1, 1)
        self.assertIn(key, keys)
        self.assertEqual(names, ("y",))
        self.assertIs(bears(ring, "hosts", 1, 1), True)

    def test_racks_named_like_hosts(self):
        hosts = (("a", "b", (0,)), ("b", "b", (1,)), ("c", "a", (2,)))
        ring = Ring(3, 2, "hosts", 1, 1, "plain", hosts)
        self.assertEqual(breach(ring, "racks", 1, 1), (0, ("b",)))
        self.assertIsNone(breach(ring, "hosts", 1, 1))


if __name__ == "__main__":
    unittest.main()
