"""Promise 13 of stage 2: the errors of plans ([4], [10], interface)."""

import unittest

from ringshares import errors
from ringshares.errors import InvalidMoment, InvalidPoint, InvalidStep, InvalidSteps, InvalidText, NotARing
from ringshares.plans import Plan
from ringshares.rings import Ring
from tests.support import (
    NAMES, NO_NAMES, ODD_VALUES, PLAIN_TEXT, EqualToAll, assert_raises_with, full_hosts, plain_ring,
)

NO_RINGS = tuple(value for value in NO_NAMES + NAMES if not isinstance(value, Ring)) + (
    PLAIN_TEXT, plain_ring().hosts, (plain_ring(),), Plan(plain_ring()),
)
JOIN = ("join", "d", "r2", (0,))
STEPS = (("down", "b"), JOIN, ("copy", "d", "a"), ("settle",))
DEEP = ((((((((("wipe", "a"),),),),),),),),)

# None of these fits anywhere: other kinds of values, other words, too many or too few parts.
NO_STEPS = ODD_VALUES + (
    "settle", ["settle"], {"settle": 1}, b"settle", 0, 1, ("",), ("Settle",), ("settle ",), ("settled",), (b"settle",),
    (["settle"],), (("settle",),), ("settle", "a"), ("settle", None), ("settle", ()), ("plan",), ("ring",),
    ("down",), ("up",), ("wipe",), ("leave",), ("down", "a", "b"), ("wipe", "a", "b"), ("leave", "a", "b"),
    ("up", "a", "a"), ("down", ("a",)), ("wipe", ["a"]), ["wipe", "a"], ("wipe", b"a"), ("wipe", EqualToAll()),
    (EqualToAll(), "a"), (EqualToAll(),), (None, "a"), (True, "a"), (0, "a"), ("a",), ("a", "wipe"),
    ("copy",), ("copy", "d"), ("copy", "d", "a", "b"), ("copy", ("d", "a")), ("copy", "d", None),
    ("copy", EqualToAll(), "a"), ("copy", "d", EqualToAll()), ("copy", ["d"], "a"), ("repair",), ("repair", "a"),
    ("repair", "a", "b", "c"), ("repair", EqualToAll(), "a"), ("repair", "a", EqualToAll()), ("repair", "a", {}),
    ("join",), ("join", "e"), ("join", "e", "r"), ("join", "e", "r", (1,), 1), ("join", "e", "r", 1),
    ("join", "e", "r", [1]), ("join", "e", "r", ()), ("join", "e", "r", (True,)), ("join", "e", "r", ("1",)),
    ("join", ("e", "r", (1,))), ["join", "e", "r", (1,)], ("join", "E", "r", (1,)), ("join", "e", "", (1,)),
    ("join", EqualToAll(), "r", (1,)), ("join", "e", EqualToAll(), (1,)), ("join", "e", "r", (EqualToAll(),)), DEEP,
)


class Made(unittest.TestCase):
    def test_what_is_no_ring(self):
        for value in NO_RINGS:
            assert_raises_with(self, NotARing, "given", value, Plan, value)
            for steps in ((), None, STEPS, (None,)):
                assert_raises_with(self, NotARing, "given", value, Plan, value, steps)
                assert_raises_with(self, NotARing, "given", value, Plan, steps=steps, ring=value)

    def test_what_is_no_tuple_of_steps(self):
        for value in NO_NAMES + NAMES + ("settle", 0, 24, list(STEPS), {JOIN: 1}, iter(STEPS), plain_ring()):
            if not isinstance(value, tuple):
                assert_raises_with(self, InvalidSteps, "index", None, Plan, plain_ring(), value)
                assert_raises_with(self, InvalidSteps, "index", None, Plan, steps=value, ring=plain_ring())

    def test_the_index_of_the_first_that_does_not_fit(self):
        ring = plain_ring()
        for step in NO_STEPS:
            for index in range(5):
                for more in ((), (step,), STEPS[index:]):
                    steps = STEPS[:index] + (step,) + more
                    assert_raises_with(self, InvalidSteps, "index", index, Plan, ring, steps)
                    assert_raises_with(self, InvalidSteps, "index", index, Plan, steps=steps, ring=ring)
        assert_raises_with(self, InvalidSteps, "index", 0, Plan, ring, (("copy", "d", "a"),))

    def test_beside_those_ahead_of_it(self):
        ring = plain_ring()
        rows = (
            (1, (JOIN, JOIN)), (1, (JOIN, ("leave", "a"))), (2, (JOIN, ("settle",), JOIN)), (0, (("settle",), JOIN)),
            (1, (("down", "a"), ("down", "a"), None)), (3, (JOIN, ("settle",), ("leave", "d"), ("copy", "d", "a"))),
            (2, (("leave", "b"), ("settle",), ("wipe", "b"))), (0, (("wipe", "d"), JOIN)),
        )
        for index, steps in rows:
            assert_raises_with(self, InvalidSteps, "index", index, Plan, ring, steps)


class Then(unittest.TestCase):
    def test_what_was_passed_and_the_plan_as_it_was(self):
        for k in range(5):
            plan = Plan(plain_ring(), STEPS[:k])
            text = str(plan)
            for step in NO_STEPS:
                assert_raises_with(self, InvalidStep, "given", step, plan.then, step)
                assert_raises_with(self, InvalidStep, "given", step, plan.then, step=step)
            self.assertEqual((str(plan), len(plan), plan.steps), (text, k, STEPS[:k]))
            for moment in range(k + 1):
                self.assertEqual(plan.counting(moment), Plan(plain_ring(), STEPS[:moment]).counting(moment))

    def test_names_that_are_not_there(self):
        for plan in (Plan(plain_ring()), Plan(plain_ring(), STEPS[:2])):
            for value in NO_NAMES + ("zz", "aa", "r1", "down", "host"):
                for step in (("down", value), ("up", value), ("wipe", value), ("leave", value), ("copy", value, "a"),
                             ("copy", "d", value), ("repair", value, "a"), ("repair", "a", value)):
                    assert_raises_with(self, InvalidStep, "given", step, plan.then, step)


class Moments(unittest.TestCase):
    def plans(self):
        return [Plan(plain_ring()), Plan(plain_ring(), STEPS), Plan(plain_ring(), (("wipe", "a"),) * 24)]

    def test_what_is_no_moment(self):
        for plan in self.plans():
            for value in ODD_VALUES + (-1, -25, len(plan) + 1, len(plan) + 2, 25, 10 ** 39, "0", "1", (0,)):
                for call in (plan.counting, plan.coming, plan.fallen):
                    assert_raises_with(self, InvalidMoment, "given", value, call, value)
                    assert_raises_with(self, InvalidMoment, "given", value, call, moment=value)
                for call in (plan.keepers, plan.pendings):
                    assert_raises_with(self, InvalidMoment, "given", value, call, 0, value)
                    assert_raises_with(self, InvalidMoment, "given", value, call, moment=value, point=11)

    def test_what_is_no_point_ahead_of_what_is_no_moment(self):
        for plan in self.plans():
            for value in ODD_VALUES + (-1, 12, 13, 10 ** 18, 10 ** 39, "0", (0,)):
                for call in (plan.keepers, plan.pendings):
                    for moment in (0, len(plan), -1, len(plan) + 1, None):
                        assert_raises_with(self, InvalidPoint, "given", value, call, value, moment)
                        assert_raises_with(self, InvalidPoint, "given", value, call, moment=moment, point=value)

    def test_the_first_and_the_last(self):
        for plan in self.plans():
            for moment in (0, len(plan)):
                self.assertEqual(len(plan.keepers(0, moment)), 2)
                self.assertEqual(plan.pendings(11, moment), ())
                self.assertIsNone(plan.coming(moment))
        full = Plan(Ring(10 ** 18, 5, "racks", 1, 1, "plain", full_hosts()))
        self.assertEqual(len(full.keepers(10 ** 18 - 1, 0)), 5)


class Classes(unittest.TestCase):
    def test_each_of_its_own_class_and_base(self):
        for error in (NotARing, InvalidSteps, InvalidStep, InvalidPoint, InvalidMoment, InvalidText):
            self.assertTrue(issubclass(error, errors.BadValue))
            self.assertFalse(issubclass(error, (errors.BadName, errors.NoAnswer)))
        for one in (InvalidSteps, InvalidStep):
            for other in (InvalidSteps, InvalidStep, NotARing, InvalidPoint, InvalidMoment, InvalidText):
                self.assertEqual(issubclass(one, other), one == other)


if __name__ == "__main__":
    unittest.main()
