"""Promise 2: what is a name and what is none ([3], [6])."""

import unittest

from ringshares.errors import InvalidHosts, InvalidName, InvalidText, UnknownName
from ringshares.rings import Ring
from tests.support import NAMES, NO_NAMES, assert_raises_with, plain_ring


def ring_of(name, rack):
    return Ring(9, 1, "hosts", 1, 1, "plain", ((name, rack, (3,)),))


class Names(unittest.TestCase):
    def test_names_are_taken_everywhere(self):
        for name in NAMES:
            ring = ring_of(name, "r")
            self.assertEqual((ring.names, ring[name], name in ring), ((name,), ("r", (3,)), True))
            self.assertEqual(ring_of("h", name)["h"], (name, (3,)))
            self.assertEqual(Ring.read(f"ring 9 1 hosts 1 1 plain\nhost {name} {name} 3"), ring_of(name, name))
            self.assertEqual(ring_of("h", "r").joined(name, name, (4,))[name], (name, (4,)))

    def test_each_sign_of_a_name(self):
        letters = "abcdefghijklmnopqrstuvwxyz"
        for code in range(256):
            sign = chr(code)
            if sign in letters:
                self.assertEqual(ring_of(sign, sign).names, (sign,))
            else:
                assert_raises_with(self, InvalidHosts, "index", 0, ring_of, sign, "r")
                assert_raises_with(self, InvalidHosts, "index", 0, ring_of, "h", sign)
            for name in ("a" + sign, "a" + sign + "b"):
                if sign in letters + "0123456789":
                    self.assertEqual(ring_of(name, name).names, (name,))
                else:
                    assert_raises_with(self, InvalidHosts, "index", 0, ring_of, name, "r")

    def test_no_names_in_hosts(self):
        for value in NO_NAMES:
            assert_raises_with(self, InvalidHosts, "index", 0, ring_of, value, "r")
            assert_raises_with(self, InvalidHosts, "index", 0, ring_of, "h", value)

    def test_no_names_in_texts(self):
        for value in NO_NAMES:
            if isinstance(value, str):
                for words in (f"{value} r", f"h {value}"):
                    text = f"ring 9 1 hosts 1 1 plain\nhost {words} 3"
                    assert_raises_with(self, InvalidText, "given", text, Ring.read, text)

    def test_no_names_for_joined(self):
        ring = plain_ring()
        for value in NO_NAMES:
            assert_raises_with(self, InvalidName, "given", value, ring.joined, value, "r", (0,))
            assert_raises_with(self, InvalidName, "given", value, ring.joined, "h", value, (0,))

    def test_no_names_in_a_ring(self):
        ring = plain_ring()
        for value in NO_NAMES:
            self.assertIs(value in ring, False)
            assert_raises_with(self, UnknownName, "given", value, ring.__getitem__, value)


if __name__ == "__main__":
    unittest.main()
