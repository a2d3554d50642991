"""Promise 11 of stage 2: plans as they are made, written, read and compared ([3], [5], [10], interface)."""

import unittest

from ringshares.errors import InvalidText
from ringshares.plans import Plan
from ringshares.rings import Ring
from tests.models import MOST, is_plan_text
from tests.support import (
    APART_TEXT, NO_NAMES, PLAIN_TEXT, EqualToAll, Judged, Other, bent_by_rows, bent_by_signs, bent_by_words, full_hosts,
    plain_ring,
)
from tests.test_steps import mixed_plans, some_rings

JOIN = ("join", "d", "r2", (0, 4))
STEPS = (
    ("down", "b"), JOIN, ("copy", "d", "a"), ("wipe", "d"), ("settle",), ("up", "b"), ("repair", "b", "d"),
    ("leave", "a"),
)
TEXT = PLAIN_TEXT + "\nplan\ndown b\njoin d r2 0 4\ncopy d a\nwipe d\nsettle\nup b\nrepair b d\nleave a"
SIGNS = tuple(" \n\t0159adjnprsuz-_+.A~") + ("\r", "\u0661", "\x85")


class Made(unittest.TestCase):
    def test_the_examples_of_the_document(self):
        plain = plain_ring()
        join = ("join", "d", "r2", (0,))
        more = plain.joined("d", "r2", (0,))
        bare = Plan(plain, (join, ("settle",)))
        self.assertEqual(
            [len(bare), bare.counting(1) == plain, bare.coming(1) == more, bare.coming(2), bare.keepers(10, 1),
             bare.pendings(10, 1), bare.keepers(10, 2)],
            [2, True, True, None, ("a", "b"), ("d",), ("d", "a")],
        )
        self.assertEqual([bare.then(("down", "d")).fallen(3), str(bare).split("\n")[4:]],
                         [("d",), ["plan", "join d r2 0", "settle"]])

    def test_ring_and_steps_as_they_were_passed(self):
        ring = plain_ring()
        for steps in ((), STEPS[:1], STEPS):
            for plan in (Plan(ring, steps), Plan(steps=steps, ring=ring)):
                self.assertIs(plan.ring, ring)
                self.assertIs(plan.steps, steps)
                self.assertEqual(len(plan), len(steps))
                self.assertEqual(plan.counting(0), ring)
        for plan in (Plan(ring), Plan(ring=ring)):
            self.assertEqual((plan.steps, len(plan), plan.coming(0), plan.fallen(0)), ((), 0, None, ()))

    def test_every_plan_is_true(self):
        self.assertIs(bool(Plan(plain_ring())), True)
        self.assertIs(bool(Plan(plain_ring(), STEPS)), True)

    def test_then_leaves_the_plan_as_it_was(self):
        plan = Plan(plain_ring(), STEPS[:2])
        text = str(plan)
        more = plan.then(("settle",))
        self.assertEqual((str(plan), len(plan), plan.coming(2) is None), (text, 2, False))
        self.assertEqual((more.ring, more.steps), (plain_ring(), STEPS[:2] + (("settle",),)))
        self.assertEqual(str(plain_ring()), PLAIN_TEXT)


class Compared(unittest.TestCase):
    def test_equal_exactly_if_the_texts_are(self):
        plans = [Plan(plain_ring(), STEPS[:k]) for k in range(9)] + [Plan(Ring.read(APART_TEXT), STEPS)]
        plans += [Plan(plain_ring().ruled(2, 2, "plain"), STEPS), Plan(plain_ring(), (("join", "d", "r2", (0,)),))]
        plans += [Plan(plain_ring(), (("join", "d", "r1", (0,)),)), Plan(plain_ring(), (("up", "a"),)[1:])]
        plans += [Plan(plain_ring(), (("wipe", name),)) for name in "ab"]
        plans += [Plan.read(str(plan)) for plan in plans]
        for one in plans:
            for other in plans:
                self.assertIs(one == other, str(one) == str(other))
                self.assertIs(one != other, str(one) != str(other))

    def test_equal_to_no_value_of_another_class(self):
        for plan in (Plan(plain_ring()), Plan(plain_ring(), STEPS)):
            values = NO_NAMES + (plain_ring(), STEPS, str(plan), (plan,), [plan], (plan.ring, plan.steps), 0, 8, Plan,
                                 Other(), EqualToAll())
            for value in values:
                self.assertIs(plan == value, False)
                self.assertIs(plan != value, True)
            for value in (plain_ring(), str(plan), (plan.ring, plan.steps), None, 0):
                self.assertIs(value == plan, False)
                self.assertIs(value != plan, True)
            self.assertIs(plan in (plain_ring(), None, Plan.read(str(plan))), True)


class Written(unittest.TestCase):
    def test_the_text_as_described(self):
        self.assertEqual(str(Plan(plain_ring(), STEPS)), TEXT)
        self.assertEqual(str(Plan(plain_ring())), PLAIN_TEXT + "\nplan")
        marks = tuple(range(1, 32, 2))
        ring = Ring(MOST, 5, "racks", 5, 4, "plain", (("a", "r", (0, MOST - 1)),))
        row = "join b9 r0 " + " ".join(str(mark) for mark in marks)
        self.assertEqual(str(Plan(ring, (("join", "b9", "r0", marks),))), str(ring) + "\nplan\n" + row)

    def test_read_gives_the_plan_again(self):
        plans = [Plan(ring, steps) for ring, steps, _ in mixed_plans(some_rings(), 24)]
        plans += [Plan(plain_ring()), Plan(Ring(111, 3, "racks", 2, 2, "with", full_hosts()), (("leave", "h0"),))]
        for plan in plans:
            text = str(plan)
            self.assertTrue(is_plan_text(text))
            for again in (Plan.read(text), Plan.read(text=text)):
                self.assertEqual(again, plan)
                self.assertEqual((again.ring, again.steps, str(again)), (plan.ring, plan.steps, text))

    def test_hosts_and_racks_with_the_names_of_words(self):
        hosts = (("plan", "join", (1,)), ("host", "ring", (2,)), ("settle", "plan", (3,)))
        steps = (("down", "plan"), ("join", "join", "plan", (0,)), ("copy", "join", "settle"))
        plan = Plan(Ring(9, 2, "racks", 1, 1, "plain", hosts), steps)
        self.assertEqual(Plan.read(str(plan)), plan)
        self.assertEqual(Plan.read(str(plan)).steps, steps)
        text = str(plan) + "\nwipe wipe"
        self.assertRaises(InvalidText, Plan.read, text)


class Texts(Judged, unittest.TestCase):
    of = Plan
    is_text = staticmethod(is_plan_text)

    def test_values_that_are_no_texts_of_plans(self):
        plan = Plan(plain_ring(), STEPS)
        for value in NO_NAMES + ("plan", "\nplan", "plan\n", PLAIN_TEXT, PLAIN_TEXT + "\n", 0, plan, plan.ring,
                                 TEXT.encode(), [TEXT], (TEXT,), tuple(TEXT.split("\n")), STEPS):
            self.assert_no_text(value)

    def test_a_sign_too_many_too_few_or_otherwise(self):
        for whole in (TEXT, PLAIN_TEXT + "\nplan", APART_TEXT + "\nplan\nsettle"):
            for text in bent_by_signs(whole, SIGNS):
                self.assert_judged(text)

    def test_a_row_too_many_too_few_or_otherwise(self):
        rows = TEXT.split("\n")
        more = rows + [
            "", " ", "settle ", "settle a", "join", "join e", "join e r", "join e r 1", "join e r 01", "join e r 1 7",
            "join e r 7 1", "down", "down a b", "copy", "copy a", "copy d c e", "copy d b", "host", "plan a",
        ]
        for text in bent_by_rows(TEXT, more):
            self.assert_judged(text)
        for k in range(len(rows) - 1):
            self.assert_judged("\n".join(rows[:k] + [rows[k + 1], rows[k]] + rows[k + 2:]))

    def test_a_word_too_many_too_few_or_otherwise(self):
        words = ("join", "leave", "copy", "settle", "down", "up", "wipe", "repair", "plan", "a", "d", "zz", "0", "4", "")
        for text in bent_by_words(TEXT, words, first=4):
            self.assert_judged(text)

    def test_written_marks(self):
        head = PLAIN_TEXT + "\nplan\njoin d r2 "
        for marks in ("0", "11", "0 1 3 4 6 7 8 10 11"):
            self.assert_judged(head + marks)
            self.assertEqual(str(Plan.read(head + marks)), head + marks)
        for marks in ("00", "01", "+1", "-1", "1.0", "", " 1", "1 ", "1  3", "12", "1 1", "3 1", "2", "1" * 40, "x",
                      "None", "True", "\u0661", "\u00b2", "1_0", "(1,)", "1,3"):
            self.assert_no_text(head + marks)

    def test_twenty_four_rows_and_no_twenty_fifth(self):
        self.assert_judged(PLAIN_TEXT + "\nplan" + "\nwipe a" * 24)
        self.assertEqual(len(Plan.read(PLAIN_TEXT + "\nplan" + "\nwipe a" * 24)), 24)
        self.assert_no_text(PLAIN_TEXT + "\nplan" + "\nwipe a" * 25)


if __name__ == "__main__":
    unittest.main()
