"""Promises 12 and 13 of stage 3: desks led by steps, with promises that hold behind each change ([2], [3], [4], [10], [16])."""

import unittest

from ringshares import errors
from ringshares.desks import Desk
from ringshares.errors import Broken, InvalidIndex, InvalidStep, InvalidWish, NotARing
from ringshares.mends import holds
from ringshares.plans import Plan
from ringshares.rings import Ring
from tests.fate_models import JOIN, SETTLE, WHOLE, some_plans
from tests.models import plain_step
from tests.support import (
    NAMES, NO_NAMES, ODD_VALUES, PLAIN_TEXT, EqualToAll, Numbers, assert_raises_with, plain_ring,
)
from tests.test_plans_refused import NO_STEPS
from tests.test_steps import mixed_plans, some_rings
from tests.test_wishes import NO_PLAN_WISHES

NO_RINGS = tuple(value for value in NO_NAMES + NAMES if not isinstance(value, Ring)) + (
    PLAIN_TEXT, plain_ring().hosts, (plain_ring(),), Plan(plain_ring()),
)
ALL_WISHES = (("safe",), ("able",), ("calm",), ("racks", 1), ("racks", 2), ("racks", 3))


def shown(desk):
    """Returns all that a desk shows."""
    return (str(desk.plan), str(desk.ring), desk.promises, desk.changes, len(desk))


def desk_of(*steps, ring=None):
    """Returns a desk at which these steps were done."""
    desk = Desk(ring or plain_ring())
    for step in steps:
        desk.do(step)
    return desk


class Led(unittest.TestCase):
    def assert_refused(self, desk, error, attribute, value, call, *given, **named):
        """Holds that a call raises this error, and that nothing has changed then."""
        before = shown(desk)
        assert_raises_with(self, error, attribute, value, call, *given, **named)
        self.assertEqual(shown(desk), before)

    def test_the_example_of_the_document(self):
        desk = Desk(plain_ring())
        self.assertIsNone(desk.promise(("safe",)))
        self.assertIsNone(desk.do(JOIN))
        self.assertEqual([len(desk), desk.changes, desk.promises, desk.ring == plain_ring()], [1, 2, (("safe",),), True])
        self.assert_refused(desk, Broken, "index", 0, desk.do, SETTLE)

    def test_at_first(self):
        for ring in some_rings():
            for desk in (Desk(ring), Desk(ring=ring)):
                self.assertEqual(desk.plan, Plan(ring))
                self.assertEqual([desk.ring, desk.promises, desk.changes, len(desk)], [ring, (), 0, 0])
                self.assertIs(bool(desk), True)

    def test_what_is_no_ring(self):
        for value in NO_RINGS:
            assert_raises_with(self, NotARing, "given", value, Desk, value)
            assert_raises_with(self, NotARing, "given", value, Desk, ring=value)

    def test_each_step_that_fits(self):
        for ring, steps, tried in mixed_plans(some_rings()[:8], 12):
            desk = Desk(ring)
            state = (ring.hosts, None, set())
            for k, step in enumerate(steps):
                for other in tried:
                    if plain_step(state, other, ring.points) is None:
                        assert_raises_with(self, InvalidStep, "given", other, desk.do, other)
                self.assertIsNone(desk.do(step) if k % 2 else desk.do(step=step))
                state = plain_step(state, step, ring.points)
                plan = Plan(ring, steps[:k + 1])
                self.assertEqual(shown(desk), (str(plan), str(plan.counting(k + 1)), (), k + 1, k + 1))
                self.assertIs(bool(desk), True)

    def test_what_is_no_step_that_fits(self):
        for steps in ((), (JOIN,), WHOLE):
            desk = desk_of(*steps)
            desk.promise(("racks", 1))
            for value in NO_STEPS:
                self.assert_refused(desk, InvalidStep, "given", value, desk.do, value)
                self.assert_refused(desk, InvalidStep, "given", value, desk.do, step=value)

    def test_twenty_four_steps_and_no_twenty_fifth(self):
        desk = desk_of(*((("wipe", "a"),) * 24))
        self.assertEqual([len(desk), desk.changes], [24, 24])
        for step in (("wipe", "a"), JOIN, ("up", "a"), None):
            self.assert_refused(desk, InvalidStep, "given", step, desk.do, step)
        desk.promise(("calm",))
        # Its fit is looked at ahead of the promises.
        self.assert_refused(desk, InvalidStep, "given", JOIN, desk.do, JOIN)
        desk.undo()
        desk.undo()
        desk.do(JOIN)
        self.assertEqual(len(desk), 24)

    def test_the_ring_that_counts_at_the_end(self):
        desk = Desk(plain_ring())
        more = plain_ring().joined("d", "r2", (0,))
        for step in WHOLE:
            self.assertEqual(desk.ring, plain_ring())
            desk.do(step)
        self.assertEqual(desk.ring, more)
        desk.do(("leave", "a"))
        desk.do(SETTLE)
        self.assertEqual(desk.ring, more.left("a"))

    def test_equal_to_itself_alone(self):
        one, other = Desk(plain_ring()), Desk(plain_ring())
        for value in NO_NAMES + (other, one.plan, one.ring, one.trial(), EqualToAll(), desk_of(JOIN), Desk):
            self.assertIs(one == value, False)
            self.assertIs(one != value, True)
        for step in (JOIN, SETTLE):
            self.assertIs(one == one, True)
            self.assertIs(one != one, False)
            one.do(step)
        with one.trial() as same:
            self.assertIs(same, one)
            self.assertIs(same == one, True)

    def test_plans_that_it_showed_stay(self):
        desk = desk_of(JOIN)
        plan, promises, ring = desk.plan, desk.promises, desk.ring
        text = str(plan)
        desk.promise(("able",))
        for step in WHOLE[1:]:
            desk.do(step)
        desk.lift(0)
        self.assertEqual((str(plan), plan.steps, promises, str(ring)), (text, (JOIN,), (), PLAIN_TEXT))
        self.assertEqual(Plan(plain_ring(), WHOLE), desk.plan)

    def test_desks_of_one_ring_are_apart(self):
        ring = plain_ring()
        one, other = Desk(ring), Desk(ring)
        one.do(JOIN)
        one.promise(("safe",))
        self.assertEqual(shown(other), shown(Desk(ring)))
        self.assertEqual(str(ring), PLAIN_TEXT)


class Promises(unittest.TestCase):
    assert_refused = Led.assert_refused

    def test_made_if_it_holds_now(self):
        for plan in some_plans()[::6]:
            desk = desk_of(*plan.steps, ring=plan.ring)
            made = ()
            for wish in ALL_WISHES + (("like", str(plan.ring)), ("like", str(desk.ring))):
                if holds(plan, wish):
                    self.assertIsNone(desk.promise(wish))
                    made += (wish,)
                else:
                    before = shown(desk)
                    with self.assertRaises(Broken) as caught:
                        desk.promise(wish=wish)
                    self.assertEqual(caught.exception.index, len(made))
                    self.assertEqual(shown(desk), before)
                self.assertEqual((desk.promises, desk.changes), (made, len(plan) + len(made)))

    def test_the_first_that_would_not_hold(self):
        numbers = Numbers(13)
        seen = set()
        for ring, steps, _ in mixed_plans(some_rings(), 9):
            desk = Desk(ring.ruled(1, 1, "with"))
            for step in steps:
                wish = ALL_WISHES[numbers.below(4)]
                if holds(desk.plan, wish):
                    desk.promise(wish)
                try:
                    plan = desk.plan.then(step)
                except InvalidStep:
                    continue
                broken = [k for k, promise in enumerate(desk.promises) if not holds(plan, promise)]
                seen.add((step[0], broken[0] if broken else None))
                if broken:
                    before = shown(desk)
                    with self.assertRaises(Broken) as caught:
                        desk.do(step)
                    self.assertEqual(caught.exception.index, broken[0])
                    self.assertEqual(shown(desk), before)
                else:
                    desk.do(step)
                self.assertTrue(all(holds(desk.plan, promise) for promise in desk.promises))
        self.assertTrue({("join", 0), ("wipe", 0), ("settle", 0), ("down", 1), ("down", None), ("settle", None)} <= seen)

    def test_each_kind_is_kept(self):
        for promise, steps, step in (
            (("safe",), (JOIN,), SETTLE), (("able",), (), ("down", "a")), (("calm",), (), JOIN),
            (("racks", 1), (), None), (("like", PLAIN_TEXT), WHOLE[:4], SETTLE),
        ):
            desk = desk_of(*steps)
            desk.promise(("racks", 1))
            desk.promise(promise)
            if step:
                self.assert_refused(desk, Broken, "index", 1, desk.do, step)
                desk.lift(0)
                self.assert_refused(desk, Broken, "index", 0, desk.do, step)
                desk.lift(0)
                desk.do(step)
                self.assert_refused(desk, Broken, "index", 0, desk.promise, promise)
        apart = Desk(Ring(12, 2, "racks", 1, 2, "with", plain_ring().hosts))
        apart.promise(("racks", 2))
        apart.do(("leave", "c"))
        self.assert_refused(apart, Broken, "index", 0, apart.do, SETTLE)

    def test_the_index_that_a_new_one_would_have(self):
        desk = desk_of(JOIN)
        for index in range(9):
            self.assert_refused(desk, Broken, "index", index, desk.promise, ("calm",))
            self.assert_refused(desk, Broken, "index", index, desk.promise, wish=("racks", 5))
            desk.promise(("safe",))
        self.assertEqual(desk.promises, (("safe",),) * 9)
        self.assert_refused(desk, Broken, "index", 0, desk.do, SETTLE)

    def test_what_is_no_wish_for_its_plan(self):
        for desk in (Desk(plain_ring()), desk_of(*WHOLE)):
            desk.promise(("safe",))
            for value in NO_PLAN_WISHES:
                self.assert_refused(desk, InvalidWish, "given", value, desk.promise, value)
                self.assert_refused(desk, InvalidWish, "given", value, desk.promise, wish=value)

    def test_lifted_by_its_index(self):
        wishes = (("safe",), ("able",), ("racks", 1), ("safe",))
        for index in range(4):
            desk = Desk(plain_ring())
            for wish in wishes:
                desk.promise(wish)
            self.assertIsNone(desk.lift(index) if index % 2 else desk.lift(index=index))
            self.assertEqual((desk.promises, desk.changes), (wishes[:index] + wishes[index + 1:], 5))
            desk.lift(2)
            desk.lift(0)
            self.assertEqual(len(desk.promises), 1)
            desk.lift(0)
            self.assertEqual((desk.promises, desk.changes), ((), 8))

    def test_what_is_no_index(self):
        empty, two = Desk(plain_ring()), Desk(plain_ring())
        two.promise(("safe",))
        two.promise(("calm",))
        for desk in (empty, two):
            for value in ODD_VALUES + (-1, -2, len(desk.promises), 3, 10 ** 39, -10 ** 39, "0", "1", (0,), ("safe",), "safe"):
                self.assert_refused(desk, InvalidIndex, "given", value, desk.lift, value)
                self.assert_refused(desk, InvalidIndex, "given", value, desk.lift, index=value)
        self.assert_refused(empty, InvalidIndex, "given", 0, empty.lift, 0)

    def test_each_of_its_own_class_and_base(self):
        for error, base in ((Broken, errors.NoAnswer), (InvalidIndex, errors.BadValue), (InvalidWish, errors.BadValue),
                            (InvalidStep, errors.BadValue), (NotARing, errors.BadValue)):
            bases = [other for other in (errors.BadValue, errors.BadName, errors.NoAnswer) if issubclass(error, other)]
            self.assertEqual(bases, [base])


if __name__ == "__main__":
    unittest.main()
