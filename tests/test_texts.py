"""Promises 6 and 7: the texts of rings, and what is none (interface)."""

import unittest

from ringshares.rings import Ring
from tests.support import (
    APART_TEXT, ODD_VALUES, PLAIN_TEXT, Judged, bent_by_rows, bent_by_signs, bent_by_words, full_hosts, is_ring_text,
    mixed_rings, plain_ring,
)

MOST = 10 ** 18
LARGE_TEXT = f"ring {MOST} 5 racks 5 4 plain\nhost z9 r 0 7 {MOST - 1}\nhost a r 10"
SIGNS = [chr(code) for code in range(32, 127)] + ["\n", "\t", "\r", "\x0b", "\x1c", "\x85", "\u0661", "\uff11", "\u2028"]


class Written(unittest.TestCase):
    def test_the_text_as_described(self):
        hosts = (("z9", "r", (0, 7, MOST - 1)), ("a", "r", (10,)))
        self.assertEqual(str(Ring(MOST, 5, "racks", 5, 4, "plain", hosts)), LARGE_TEXT)
        self.assertEqual(str(plain_ring()), PLAIN_TEXT)
        self.assertEqual(str(Ring(1, 1, "hosts", 1, 1, "plain", (("a", "b", (0,)),))),
                         "ring 1 1 hosts 1 1 plain\nhost a b 0")
        rows = str(Ring(111, 3, "racks", 2, 1, "with", full_hosts())).split("\n")
        self.assertEqual(rows, ["ring 111 3 racks 2 1 with"] + [f"host h{k} r{k % 3} {10 * k}" for k in range(12)])

    def test_read_gives_the_ring_again(self):
        for ring in mixed_rings():
            text = str(ring)
            self.assertTrue(is_ring_text(text))
            again = Ring.read(text)
            self.assertEqual(again, ring)
            self.assertEqual(again.hosts, ring.hosts)
            self.assertEqual(str(again), text)

    def test_hosts_keep_their_order(self):
        text = "ring 9 1 hosts 1 1 plain\nhost c r 5\nhost a r 7\nhost b r 1"
        self.assertEqual([host[0] for host in Ring.read(text).hosts], ["c", "a", "b"])
        self.assertEqual(str(Ring.read(text)), text)


class Texts(Judged, unittest.TestCase):
    of = Ring
    is_text = staticmethod(is_ring_text)

    def test_values_that_are_no_strings(self):
        for value in ODD_VALUES + (0, 12, PLAIN_TEXT.encode(), [PLAIN_TEXT], (PLAIN_TEXT,), PLAIN_TEXT.split("\n")):
            self.assert_no_text(value)

    def test_a_sign_too_many_too_few_or_otherwise(self):
        for whole in (PLAIN_TEXT, APART_TEXT, LARGE_TEXT):
            for text in bent_by_signs(whole, SIGNS):
                self.assert_judged(text)

    def test_a_word_too_many_too_few_or_otherwise(self):
        words = ("ring", "host", "hosts", "racks", "plain", "with", "a", "r1", "0", "1", "3", "6", "12", "plan", "")
        for text in bent_by_words(PLAIN_TEXT, words):
            self.assert_judged(text)

    def test_a_row_too_many_too_few_or_otherwise(self):
        rows = PLAIN_TEXT.split("\n")
        more = rows + ["", " ", "plan", "host", "host d", "host d r2", "host d r2 0", "host a r2 0", "host d r2 5"]
        for text in bent_by_rows(PLAIN_TEXT, more):
            self.assert_judged(text)
        for text in ("", "\n", "ring", "host", rows[0], rows[0] + "\n", "\n".join(rows[1:]), "\n".join(rows[::-1])):
            self.assert_no_text(text)

    def test_ends(self):
        for blank in (" ", "\n", "  ", "\n\n", "\t", "\r\n", "\r", "\x00"):
            self.assert_no_text(PLAIN_TEXT + blank)
            self.assert_no_text(blank + PLAIN_TEXT)
            self.assert_no_text(PLAIN_TEXT.replace("\n", blank + "\n"))
            self.assert_no_text(PLAIN_TEXT.replace("\n", "\n" + blank))

    def assert_no_number(self, form):
        """Holds that no number of a text can be written so."""
        rows = [row.split(" ") for row in PLAIN_TEXT.split("\n")]
        for at, words in enumerate(rows):
            for k, word in enumerate(words):
                if word.isdigit():
                    other = " ".join(words[:k] + [form.format(word)] + words[k + 1:])
                    self.assert_no_text("\n".join([" ".join(row) for row in rows[:at]] + [other]
                                                  + [" ".join(row) for row in rows[at + 1:]]))

    def test_written_numbers(self):
        for form in (
            "0{}", "00{}", "+{}", "-{}", "_{}", "{}_0", "{}.0", "{}.", "{}e0", "0x{}", "{}L", "{}\t", "\t{}", "'{}'",
            "", "-0", "00", "-1", "one", "True", "None", "\u0661", "\u00b2", "\uff11", "\u0967", "{}\u0661",
        ):
            self.assert_no_number(form)

    def test_numbers_out_of_bounds(self):
        row = "ring {} {} hosts {} {} plain\nhost a r {}"
        good = (MOST, 5, 5, 5, 0)
        self.assert_judged(row.format(*good))
        self.assert_judged(row.format(1, 1, 1, 1, 0))
        wrong = ((0, 0), (0, MOST + 1), (0, 10 ** 19), (0, 10 ** 38), (1, 0), (1, 6), (1, 55), (2, 0), (2, 6), (3, 0),
                 (3, 6), (4, MOST), (4, MOST + 1), (4, 10 ** 19), (4, 10 ** 38))
        for place, number in wrong:
            self.assert_no_text(row.format(*good[:place], number, *good[place + 1:]))
        self.assert_no_text(row.format(12, 2, 3, 1, 0))
        self.assert_no_text(row.format(12, 2, 1, 3, 0))
        self.assert_no_text(row.format(12, 2, 1, 1, 12))
        self.assert_no_text(row.format("1" * 7000, 2, 1, 1, 0))

    def test_hosts_out_of_bounds(self):
        first = "ring 100 1 hosts 1 1 plain"
        rows = [f"host h{k} r {k}" for k in range(13)]
        self.assert_judged("\n".join([first] + rows[:12]))
        self.assert_no_text("\n".join([first] + rows))
        for many in (1, 16):
            self.assert_judged(first + "\nhost a r " + " ".join(str(k) for k in range(many)))
        for marks in ("", " 1 1", " 2 1", " 1 2 2", " 0 100", " " + " ".join(str(k) for k in range(17))):
            self.assert_no_text(first + "\nhost a r" + marks)
        self.assert_no_text(first + "\nhost a r 1\nhost b r 1")
        self.assert_no_text(first + "\nhost a r 1\nhost a r 2")


if __name__ == "__main__":
    unittest.main()
