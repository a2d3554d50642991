"""Promise 13 of stage 4: a desk refuses a step just if a promise would not hold, and a paper shows why ([12] to [14], [16], [18])."""

import unittest

from ringshares.certificates import certify
from ringshares.checker import accepts
from ringshares.console import Console
from ringshares.desks import Desk
from ringshares.errors import Broken, InvalidStep
from ringshares.plans import Plan
from ringshares.rings import Ring
from tests.fate_models import JOIN, SETTLE, of_many_points, plain_plan, ruled_otherwise, some_plans, widened_step
from tests.support import APART_TEXT, Numbers
from tests.test_certificates import claim_against
from tests.test_desks import desk_of, shown
from tests.test_mends import is_plain_wish_held
from tests.test_steps import mixed_plans, some_rings

PLANS = some_plans()
WIDTH = 10 ** 16


def promises_for(plan, numbers):
    """Returns wishes that hold for a plan, in a mixed order."""
    wishes = [("safe",), ("able",), ("calm",), ("racks", 1), ("racks", 2), ("like", str(plan.counting(len(plan))))]
    return [wish for wish in numbers.chosen(wishes, 6) if is_plain_wish_held(plan, wish)]


class Refused(unittest.TestCase):
    def assert_shown(self, plan, promise):
        """Holds that a paper shows that the promise does not hold for the plan."""
        told = certify(plan, promise)
        if promise == ("calm",):
            self.assertIsNone(told)
            self.assertIsNotNone(plan.coming(len(plan)))
        else:
            self.assertEqual(told[0], claim_against(plan, promise))
            self.assertIs(accepts(*told), True)

    def assert_step(self, desk, step):
        """Does a step that fits, or holds that it is refused with the first promise that it breaks; returns this promise."""
        plan = desk.plan.then(step)
        broken = [k for k, promise in enumerate(desk.promises) if not is_plain_wish_held(plan, promise)]
        if not broken:
            desk.do(step)
            self.assertEqual(desk.plan, plan)
            return None
        before = shown(desk)
        with self.assertRaises(Broken) as caught:
            desk.do(step)
        self.assertEqual((caught.exception.index, shown(desk)), (broken[0], before))
        self.assert_shown(plan, desk.promises[broken[0]])
        return desk.promises[broken[0]]

    def test_each_step_of_mixed_plans(self):
        numbers = Numbers(31)
        seen = set()
        for ring, steps, _ in mixed_plans(some_rings() * 2, 9):
            begun = numbers.below(4)
            desk = desk_of(*steps[:begun], ring=ruled_otherwise(ring, numbers))
            for wish in promises_for(desk.plan, numbers):
                desk.promise(wish)
            for step in steps[begun:]:
                try:
                    desk.plan.then(step)
                except InvalidStep:
                    continue
                broken = self.assert_step(desk, step)
                seen.add(broken and broken[0])
                if broken and numbers.below(2):
                    desk.lift(desk.promises.index(broken))
        self.assertEqual(seen | {"racks"}, {None, "safe", "able", "calm", "racks", "like"})

    def test_each_step_of_plans_that_change(self):
        numbers = Numbers(32)
        seen = set()
        for plan in PLANS[100::11]:
            desk = Desk(plan.ring)
            for wish in (("safe",), ("able",)):
                if is_plain_wish_held(desk.plan, wish):
                    desk.promise(wish)
            for step in plan.steps:
                try:
                    desk.plan.then(step)
                except InvalidStep:
                    continue
                broken = self.assert_step(desk, step)
                seen.add((step[0], broken))
        self.assertTrue({("settle", ("safe",)), ("settle", None), ("wipe", ("safe",)), ("down", ("able",)), ("join", None),
                         ("copy", None), ("repair", None), ("leave", None)} <= seen, seen)

    def test_racks(self):
        desk = desk_of(("leave", "c"), ring=Ring.read(APART_TEXT))
        desk.promise(("racks", 1))
        desk.promise(("racks", 2))
        self.assertEqual(self.assert_step(desk, SETTLE), ("racks", 2))

    def test_on_many_points(self):
        for plan in PLANS[101::30]:
            desk, large = Desk(plan.ring), Desk(of_many_points(Plan(plan.ring), WIDTH).ring)
            for held in (desk, large):
                held.promise(("racks", 1))
                if is_plain_wish_held(desk.plan, ("safe",)):
                    held.promise(("safe",))
            for step in plan.steps:
                broken = self.broken_by(desk, step)
                self.assertEqual(self.broken_by(large, widened_step(step, WIDTH)), broken)
                if isinstance(broken, int):
                    self.assert_shown(large.plan.then(widened_step(step, WIDTH)), large.promises[broken])

    def broken_by(self, desk, step):
        """Does a step; returns the index of the promise that it would break, or what else keeps it from being done."""
        try:
            desk.do(step)
        except Broken as error:
            return error.index
        except InvalidStep:
            return "unfit"
        return None

    def test_by_lines_as_well(self):
        console = Console(plain_plan().ring)
        for line, told in (("promise safe", "ok"), ("do join d r2 0", "ok"), ("do settle", "Broken")):
            self.assertEqual(console.say(line), told)
        self.assert_shown(console.desk.plan.then(SETTLE), ("safe",))
        self.assertEqual(console.desk.plan.steps, (JOIN,))


if __name__ == "__main__":
    unittest.main()
