"""Promise 7 of stage 3: the errors of fates ([4], interface)."""

import unittest

from ringshares import errors
from ringshares.errors import InvalidMoment, InvalidPoint, InvalidTakers, NotAPlan
from ringshares.fates import halted, holders, is_able, is_safe, lost, lost_at, wanted
from ringshares.plans import Plan
from ringshares.rings import Ring
from tests.fate_models import JOIN, SETTLE, WHOLE, lone_ring, plain_plan
from tests.support import NAMES, NO_NAMES, ODD_VALUES, PLAIN_TEXT, EqualToAll, assert_raises_with, plain_ring

NO_PLANS = NO_NAMES + NAMES + (
    PLAIN_TEXT, PLAIN_TEXT + "\nplan", plain_ring(), WHOLE, (plain_plan(),), [plain_plan()], (plain_ring(), WHOLE),
)
OF_A_PLAN = (lost, is_safe, halted, is_able)
NO_POINTS = ODD_VALUES + (-1, 12, 13, 10 ** 18, 10 ** 39, -10 ** 39, "0", "10", (0,), "a")
NO_MOMENTS = ODD_VALUES + (-1, 6, 7, 24, 25, 10 ** 39, -10 ** 39, "0", "1", (0,), "a")

# At the moment 1, two of a, b and d take a write of the key 10; at the moment 0, a or b.
NO_TAKERS = ODD_VALUES + (
    (), ("a",), ("d",), ("a", "b", "d"), ("b", "a"), ("a", "a"), ("d", "a"), ["a", "b"], {"a": 1, "b": 2}, "ab",
    ("a", "c"), ("b", "c"), ("c", "d"), ("a", "z"), ("a", None), (None, "a"), ("a", EqualToAll()),
    (EqualToAll(), EqualToAll()), (EqualToAll(), "d"), ("a", b"b"), ("a", ("b",)), (("a", "b"),), (("a",), ("b",)),
    ("a", ["b"]), ("a", 1), (0, 1), ("A", "b"), ("a", ""), ("", "a"), 2, "a b", ("a b",), plain_ring(), ("a", "b", ""),
)


class OfAPlan(unittest.TestCase):
    def test_what_is_no_plan(self):
        for value in NO_PLANS:
            for call in OF_A_PLAN:
                assert_raises_with(self, NotAPlan, "given", value, call, value)
                assert_raises_with(self, NotAPlan, "given", value, call, plan=value)
            for rest in ((10, 0), (-1, -1), (None, None)):
                assert_raises_with(self, NotAPlan, "given", value, wanted, value, *rest)
                assert_raises_with(self, NotAPlan, "given", value, holders, value, *rest, ("a",), 0)
            assert_raises_with(self, NotAPlan, "given", value, lost_at, value, 10)
            assert_raises_with(self, NotAPlan, "given", value, lost_at, point=None, plan=value)
            assert_raises_with(self, NotAPlan, "given", value, wanted, moment=0, point=0, plan=value)
            assert_raises_with(
                self, NotAPlan, "given", value, holders, until=9, names=None, moment=9, point=99, plan=value)

    def test_what_is_no_point(self):
        for plan in (plain_plan(), plain_plan(*WHOLE)):
            for value in NO_POINTS:
                assert_raises_with(self, InvalidPoint, "given", value, lost_at, plan, value)
                assert_raises_with(self, InvalidPoint, "given", value, lost_at, point=value, plan=plan)
                for moment in (0, -1, 25, None):
                    assert_raises_with(self, InvalidPoint, "given", value, wanted, plan, value, moment)
                    assert_raises_with(self, InvalidPoint, "given", value, holders, plan, value, moment, None, None)
                assert_raises_with(self, InvalidPoint, "given", value, wanted, moment=0, point=value, plan=plan)

    def test_what_is_no_moment(self):
        for value in NO_MOMENTS:
            plan = plain_plan(*WHOLE)
            assert_raises_with(self, InvalidMoment, "given", value, wanted, plan, 10, value)
            assert_raises_with(self, InvalidMoment, "given", value, wanted, moment=value, point=11, plan=plan)
            for names in (("a",), None, ()):
                assert_raises_with(self, InvalidMoment, "given", value, holders, plan, 10, value, names, 5)
        for value in (1, 2, 24):
            assert_raises_with(self, InvalidMoment, "given", value, wanted, plain_plan(), 0, value)
            assert_raises_with(self, InvalidMoment, "given", value, holders, plain_plan(), 0, value, ("a",), value)


class Takers(unittest.TestCase):
    def test_what_are_no_takers(self):
        plan = plain_plan(*WHOLE)
        for value in NO_TAKERS:
            for until in (1, 5, 0, None, 99):
                assert_raises_with(self, InvalidTakers, "given", value, holders, plan, 10, 1, value, until)
            assert_raises_with(
                self, InvalidTakers, "given", value, holders, until=5, names=value, moment=1, point=10, plan=plan)

    def test_just_so_many_of_those_who_can(self):
        plan = plain_plan(*WHOLE)
        for moment, right, wrong in (
            (0, ("a",), ("d",)), (0, ("b",), ("a", "b")), (1, ("a", "b"), ("a",)), (4, ("b", "d"), ("b", "c")),
            (5, ("d",), ("b",)), (5, ("a",), ("a", "d")),
        ):
            self.assertEqual(holders(plan, 10, moment, right, moment), right)
            assert_raises_with(self, InvalidTakers, "given", wrong, holders, plan, 10, moment, wrong, 5)

    def test_who_is_down_takes_nothing(self):
        plan = plain_plan(JOIN, ("down", "a"), ("down", "d"))
        self.assertEqual(holders(plan, 10, 1, ("a", "d"), 3), ("a", "d"))
        self.assertEqual(holders(plan, 10, 2, ("b", "d"), 3), ("b", "d"))
        for moment, names in ((2, ("a", "b")), (2, ("a", "d")), (3, ("b", "d")), (3, ("b",))):
            assert_raises_with(self, InvalidTakers, "given", names, holders, plan, 10, moment, names, 3)

    def test_no_takers_of_a_write_that_cannot_be_made(self):
        plan = Plan(Ring(12, 3, "hosts", 3, 1, "plain", lone_ring().hosts))
        for names in ((), ("a",), ("a", "a", "a"), ("a", "b", "c")):
            assert_raises_with(self, InvalidTakers, "given", names, holders, plan, 0, 0, names, 0)


class Until(unittest.TestCase):
    def test_what_is_no_moment(self):
        plan = plain_plan(*WHOLE)
        for value in NO_MOMENTS:
            assert_raises_with(self, InvalidMoment, "given", value, holders, plan, 10, 0, ("a",), value)
            assert_raises_with(
                self, InvalidMoment, "given", value, holders, until=value, names=("a",), moment=0, point=10, plan=plan)

    def test_what_is_earlier_than_the_write(self):
        plan = plain_plan(*WHOLE)
        rows = (("a",), ("a", "b"), ("a", "b"), ("a", "b"), ("a", "b"), ("a",))
        for moment, names in enumerate(rows):
            for until in range(moment):
                assert_raises_with(self, InvalidMoment, "given", until, holders, plan, 10, moment, names, until)
            for until in range(moment, 6):
                self.assertIn("a", holders(plan, 10, moment, names, until))

    def test_plans_stay_as_they_were(self):
        plan = plain_plan(JOIN, SETTLE)
        text = str(plan)
        for call, rest in ((wanted, (12, 0)), (holders, (0, 0, (), 0)), (holders, (0, 1, ("a", "b"), 0)), (lost_at, (-1,))):
            self.assertRaises(errors.BadValue, call, plan, *rest)
        self.assertEqual((str(plan), plan.steps), (text, (JOIN, SETTLE)))


class Classes(unittest.TestCase):
    def test_each_of_its_own_class_and_base(self):
        told = (NotAPlan, InvalidPoint, InvalidMoment, InvalidTakers)
        for error in told:
            self.assertTrue(issubclass(error, errors.BadValue))
            self.assertFalse(issubclass(error, (errors.BadName, errors.NoAnswer)))
            self.assertEqual([other for other in told if issubclass(error, other)], [error])
        self.assertTrue(issubclass(errors.NoRoom, errors.NoAnswer))
        self.assertTrue(issubclass(errors.InvalidStep, errors.BadValue))


if __name__ == "__main__":
    unittest.main()
