"""Promises 4 and 5 of stage 3: plans whose fates are known, and what never loses more ([10], [12] to [14])."""

import unittest

from ringshares.errors import InvalidStep
from ringshares.fates import halted, holders, is_able, is_safe, lost, lost_at, wanted
from ringshares.plans import Plan
from ringshares.rings import Ring
from tests.fate_models import JOIN, SETTLE, WHOLE, of_many_points, plain_plan, ruled, some_plans, turned
from tests.models import plain_states
from tests.support import Numbers

COPIES = WHOLE[1:4]
PLANS = some_plans()
WIDTH = 10 ** 15


class Known(unittest.TestCase):
    def test_a_bare_settling_loses(self):
        bare = plain_plan(JOIN, SETTLE)
        key, moment, takers, until, answerers = lost(bare)
        self.assertEqual((until, "d" in answerers, set(takers) & set(answerers)), (2, True, set()))
        self.assertEqual([lost_at(bare, point) is None for point in range(12)], [False] + [True] * 5 + [False] * 6)
        self.assertEqual(holders(bare, key, moment, takers, 2), tuple(n for n in takers if n in bare.keepers(key, 2)))

    def test_a_settling_that_gives_up_no_key_loses_nothing(self):
        wide = Ring(12, 4, "hosts", 1, 4, "with", plain_plan().ring.hosts)
        self.assertTrue(is_safe(Plan(wide, (JOIN, SETTLE))))

    def test_copies_from_those_who_go_mend_it(self):
        # From the keys 10 to 0 the host b goes, from 6 to 9 the host a.
        self.assertTrue(is_safe(plain_plan(*WHOLE)))
        self.assertTrue(is_safe(plain_plan(JOIN, COPIES[0], COPIES[1], SETTLE)))
        for copies in ((), COPIES[:1], COPIES[1:2], COPIES[2:], COPIES[1:], COPIES[::2]):
            self.assertFalse(is_safe(plain_plan(JOIN, *copies, SETTLE)))

    def test_one_too_early_or_too_late_does_not(self):
        self.assertRaises(InvalidStep, plain_plan().then, COPIES[0])
        self.assertRaises(InvalidStep, plain_plan(JOIN, SETTLE).then, COPIES[0])
        # A copy while the taker has what is wiped later is too early.
        self.assertFalse(is_safe(plain_plan(JOIN, *COPIES, ("wipe", "d"), SETTLE)))
        self.assertTrue(is_safe(plain_plan(JOIN, ("wipe", "d"), *COPIES, SETTLE)))
        # A repair behind the settling comes too late: between both a read misses the write.
        late = plain_plan(JOIN, COPIES[0], SETTLE, ("repair", "d", "c"), ("repair", "d", "b"))
        self.assertEqual(lost(late)[3], 3)

    def test_plain_pendings_lose_a_write_behind_the_copies(self):
        hasty = plain_plan(*WHOLE, pending="plain")
        case = lost(hasty)
        self.assertEqual((case[3], holders(hasty, case[0], case[1], case[2], 5)), (5, ()))
        self.assertIn(case[1], (1, 2, 3, 4))
        self.assertEqual(holders(hasty, 10, 0, ("b",), 5), ("d",))
        self.assertTrue(is_safe(plain_plan(*WHOLE, pending="with")))
        self.assertTrue(is_safe(plain_plan(*WHOLE, write=2, read=2, pending="plain")))

    def test_a_wipe_loses_until_a_repair(self):
        wiped = plain_plan(("wipe", "a"), write=2, read=1)
        self.assertEqual((lost(wiped)[3], lost(wiped)[4]), (1, ("a",)))
        mended = wiped.then(("repair", "a", "b")).then(("repair", "a", "c"))
        # Behind the repairs each read sees all, but between both there was one that did not.
        self.assertEqual(lost(mended)[3], 1)
        for point, taker in ((10, "b"), (6, "c")):
            self.assertIn(taker, holders(wiped, point, 0, tuple(sorted(("a", taker))), 1))
            self.assertEqual(holders(mended, point, 0, tuple(sorted(("a", taker))), 3), tuple(sorted(("a", taker))))
        one = plain_plan(("wipe", "a"), ("wipe", "b"), write=2, read=2)
        self.assertEqual(lost(one)[3:], (2, ("a", "b")))
        self.assertTrue(is_safe(plain_plan(("wipe", "a"), ("repair", "a", "b"), ("repair", "a", "c"), ("wipe", "b"),
                                           ("repair", "b", "a"), ("repair", "b", "c"), write=2, read=2)))
        self.assertFalse(is_safe(plain_plan(("wipe", "a"), ("repair", "a", "c"), ("wipe", "b"), write=2, read=2)))

    def test_a_host_that_is_down_gets_nothing_by_a_repair(self):
        for name in ("a", "b"):
            self.assertRaises(InvalidStep, plain_plan(("down", name)).then, ("repair", "a", "b"))
        joining = plain_plan(JOIN, ("down", "d"))
        self.assertRaises(InvalidStep, joining.then, COPIES[0])
        self.assertRaises(InvalidStep, joining.then, ("repair", "d", "a"))
        # Down while it is copied and repaired, c comes up without what it would have got.
        plan = plain_plan(("wipe", "c"), ("down", "c"), ("repair", "b", "a"), ("up", "c"))
        self.assertEqual(holders(plan, 3, 0, ("c",), 4), ())
        self.assertEqual(holders(plan, 3, 0, ("b",), 4), ("b",))

    def test_who_comes_back_has_what_it_had(self):
        plan = plain_plan(("down", "b"), ("up", "b"), write=1, read=2)
        self.assertEqual([holders(plan, 3, 0, ("b",), until) for until in range(3)], [("b",)] * 3)
        self.assertTrue(is_safe(plan))
        self.assertEqual([wanted(plan, 3, 1), halted(plan)[1:]], [(1, ("c",)), (1, "read")])
        # A write while it was down is not seen by it when it is back.
        later = plain_plan(("down", "b"), ("up", "b"), write=1, read=1)
        self.assertEqual(holders(later, 3, 1, ("c",), 2), ("c",))
        self.assertFalse(is_safe(later))
        self.assertTrue(is_safe(plain_plan(("down", "b"), ("wipe", "c"), ("up", "b"), write=2, read=2)))

    def test_moments_with_too_few_that_are_up_lose_nothing(self):
        quiet = plain_plan(("down", "a"), ("down", "b"), ("down", "c"), ("wipe", "a"), ("wipe", "b"), ("wipe", "c"))
        self.assertTrue(is_safe(quiet))
        self.assertFalse(is_able(quiet))
        self.assertEqual(lost(quiet.then(("up", "a")).then(("up", "b")))[3], 8)


class NeverMore(unittest.TestCase):
    def assert_no_more_lost(self, plan, other):
        """Holds that the other plan loses no key that the one does not lose."""
        self.assertFalse(is_safe(plan) and not is_safe(other), (str(plan), str(other)))
        for key in range(0, plan.ring.points, 5):
            if lost_at(plan, key) is None:
                self.assertIsNone(lost_at(other, key))

    def test_one_repair_more(self):
        numbers = Numbers(3)
        many = 0
        for plan in PLANS[::2]:
            for _ in range(3):
                at = numbers.below(len(plan) + 1)
                names = plan.counting(at).names
                if len(names) > 1 and len(plan) < 24:
                    step = ("repair",) + tuple(numbers.chosen(names, 2))
                    steps = plan.steps[:at] + (step,) + plan.steps[at:]
                    if len(plain_states(plan.ring, steps)) == len(steps) + 1:
                        self.assert_no_more_lost(plan, Plan(plan.ring, steps))
                        many += 1
        self.assertGreater(many, 100)

    def test_more_takers_more_answerers_pendings_counted(self):
        for plan in PLANS[::2]:
            factor, write, read, pending = (
                plan.ring.factor, plan.ring.write, plan.ring.read_number, plan.ring.pending)
            if write < factor:
                self.assert_no_more_lost(plan, ruled(plan, write + 1, read, pending))
            if read < factor:
                self.assert_no_more_lost(plan, ruled(plan, write, read + 1, pending))
            self.assert_no_more_lost(ruled(plan, write, read, "plain"), ruled(plan, write, read, "with"))

    def test_fewer_takers_or_answerers_stay_able(self):
        many = 0
        for plan in PLANS:
            if is_able(plan):
                many += 1
                for write in range(1, plan.ring.write + 1):
                    self.assertTrue(is_able(ruled(plan, write, plan.ring.read_number, plan.ring.pending)))
                for read in range(1, plan.ring.read_number + 1):
                    self.assertTrue(is_able(ruled(plan, plan.ring.write, read, plan.ring.pending)))
        self.assertGreater(many, 100)

    def test_moved_round_renamed_and_in_another_order(self):
        numbers = Numbers(4)
        for plan in PLANS[::2]:
            turn, other_name, other = turned(plan, numbers)
            self.assertEqual([is_safe(plan), is_able(plan)], [is_safe(other), is_able(other)])
            for key in range(0, plan.ring.points, 4):
                point = (key + turn) % plan.ring.points
                self.assertEqual(lost_at(plan, key) is None, lost_at(other, point) is None)
                for moment in range(0, len(plan) + 1, 3):
                    many, names = wanted(plan, key, moment)
                    told = tuple(sorted(other_name[name] for name in names))
                    self.assertEqual(wanted(other, point, moment), (many, told))

    def test_so_many_times_the_points(self):
        for plan in PLANS[::2]:
            large = of_many_points(plan, WIDTH)
            self.assertEqual([is_safe(plan), is_able(plan)], [is_safe(large), is_able(large)])


if __name__ == "__main__":
    unittest.main()
