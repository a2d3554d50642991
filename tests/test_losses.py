"""Promises 2 and 3 of stage 3: whether a write can be lost, and whether a plan comes to a halt ([2], [12] to [15], [18])."""

import unittest

from ringshares.fates import halted, is_able, is_safe, lost, lost_at
from ringshares.plans import Plan
from ringshares.rings import Ring
from tests.fate_models import (
    JOIN, SETTLE, WHOLE, all_halts, is_loss, keys_with_loss, of_many_points, plain_plan, some_plans,
)
from tests.models import MOST
from tests.support import Numbers, full_hosts, mixed_hosts

PLANS = some_plans()
WIDTH = 10 ** 16


def full_plan(write, read, pending):
    """Returns a plan with the most hosts, marks and steps on the most points."""
    hosts = tuple(
        (name, rack, tuple(mark * (MOST // 1000) for mark in marks))
        for name, rack, marks in mixed_hosts(Numbers(7), 1000, 12, 16, 5)
    )
    ring = Ring(MOST, 5, "racks", write, read, pending, hosts)
    steps = ()
    for k, name in enumerate(ring.names[:4]):
        marks = tuple(range(16 * k + 1, 16 * k + 17))
        steps += (("leave", name), ("copy", ring.names[5], name), SETTLE)
        steps += (("join", name, "r1", marks), ("copy", name, ring.names[5]), SETTLE)
    return Plan(ring, steps)


class Lost(unittest.TestCase):
    def assert_case(self, plan, case, key=None):
        """Holds that what is told is a case of loss, of this key if one is asked for."""
        self.assertEqual([type(part) for part in case], [int, int, tuple, int, tuple])
        self.assertTrue(is_loss(plan, case), (str(plan), case))
        self.assertIn(key, (None, case[0]))

    def test_the_examples_of_the_document(self):
        whole, bare = plain_plan(*WHOLE), plain_plan(JOIN, SETTLE)
        self.assertEqual(
            [is_safe(whole), is_safe(bare), lost_at(bare, 3), is_able(whole), is_able(bare.then(("down", "a")))],
            [True, False, None, True, False],
        )
        self.assertIs(is_safe(plain_plan(*WHOLE, pending="plain")), False)

    def test_all_keys_moments_takers_and_answerers(self):
        told = set()
        for plan in PLANS:
            lossy = keys_with_loss(plan)
            case = lost(plan)
            self.assertEqual(case is None, not lossy, str(plan))
            self.assertIs(is_safe(plan), case is None)
            if case is not None:
                self.assert_case(plan, case)
            self.assertEqual([lost(plan=plan), is_safe(plan=plan)], [case, case is None])
            told.add((plan.ring.pending, plan.ring.spread, case is None))
        self.assertEqual(len(told), 8)

    def test_of_each_key_alone(self):
        for plan in PLANS[::3]:
            lossy = keys_with_loss(plan)
            for key in range(plan.ring.points):
                case = lost_at(plan, key)
                self.assertEqual(case is not None, key in lossy)
                if case is not None:
                    self.assert_case(plan, case, key)
                self.assertEqual(lost_at(point=key, plan=plan), case)

    def test_few_takers_and_answerers_miss_at_once(self):
        for write in (1, 2):
            for read in (1, 2):
                case = lost(plain_plan(write=write, read=read))
                self.assertEqual(case is None, write + read > 2)
        one, other = lost(plain_plan(write=1, read=1))[2::2]
        self.assertEqual(len(one + other), len(set(one + other)))

    def test_of_many_points(self):
        for plan in PLANS[1::7]:
            large = of_many_points(plan, WIDTH)
            lossy = keys_with_loss(plan)
            case = lost(large)
            self.assertEqual(case is None, not lossy)
            if case is not None:
                self.assert_case(plan, (case[0] // WIDTH,) + case[1:])
            for key in range(0, plan.ring.points, 3):
                point = key * WIDTH + WIDTH // 3
                case = lost_at(large, point)
                self.assertEqual(case is not None, key in lossy)
                if case is not None:
                    self.assertEqual(case[0], point)
                    self.assert_case(plan, (key,) + case[1:])

    def test_the_most_of_all(self):
        for write, read, pending in ((5, 5, "with"), (3, 3, "with"), (5, 1, "plain"), (1, 5, "plain")):
            plan = full_plan(write, read, pending)
            self.assertEqual(len(plan), 24)
            case = lost(plan)
            self.assertEqual(case is None, is_safe(plan))
            if case is not None:
                self.assertIsNotNone(lost_at(plan, case[0]))
        quiet = Plan(Ring(MOST, 5, "hosts", 3, 3, "with", full_hosts()), (("repair", "h0", "h1"),) * 24)
        self.assertEqual([lost(quiet), lost_at(quiet, MOST - 1), halted(quiet)], [None, None, None])

    def test_a_key_of_a_small_cell_is_found(self):
        # The join takes one key of all: only this key can be lost.
        for point in (0, 5, MOST // 3, MOST - 1):
            before, behind = (point - 1) % MOST, (point + 1) % MOST
            hosts = (("a", "r", (before,)), ("b", "r", (MOST // 2,)), ("c", "r", (behind,)))
            plan = Plan(Ring(MOST, 1, "hosts", 1, 1, "plain", hosts), (("join", "d", "r", (point,)), SETTLE))
            for case in (lost(plan), lost_at(plan, point)):
                self.assertIn(case, [(point, moment, ("c",), 2, ("d",)) for moment in (0, 1)])
            self.assertEqual([lost_at(plan, before), lost_at(plan, behind)], [None, None])


class Halted(unittest.TestCase):
    def test_each_key_at_each_moment(self):
        told = set()
        for plan in PLANS:
            halts = all_halts(plan)
            case = halted(plan)
            self.assertEqual(case is None, not halts)
            self.assertEqual([is_able(plan), is_able(plan=plan), halted(plan=plan)], [not halts, not halts, case])
            if case is not None:
                self.assertIn(case, halts)
                self.assertEqual([type(part) for part in case], [int, int, str])
            told.add(None if case is None else case[2])
        self.assertEqual(told, {None, "write", "read"})

    def test_of_many_points(self):
        for plan in PLANS[2::5]:
            case = halted(of_many_points(plan, WIDTH))
            halts = all_halts(plan)
            self.assertEqual(case is None, not halts)
            if case is not None:
                self.assertIn((case[0] // WIDTH,) + case[1:], halts)

    def test_writes_and_reads_apart(self):
        for write, read, told in ((2, 1, "write"), (1, 2, "read"), (2, 2, "write"), (1, 1, None)):
            plan = plain_plan(("down", "a"), write=write, read=read)
            case = halted(plan)
            self.assertEqual(case is None, told is None)
            if told is not None:
                self.assertIn(case, all_halts(plan))
                self.assertEqual(case[1], 1)
            if write != read:
                self.assertEqual(case[2], told)

    def test_a_pending_that_is_down_is_waited_for(self):
        steps = (JOIN, ("down", "d"))
        self.assertEqual(halted(plain_plan(*steps, write=2, read=1))[1:], (2, "write"))
        self.assertIsNone(halted(plain_plan(*steps, write=1, read=1)))
        self.assertIsNone(halted(plain_plan(*steps, write=2, read=1, pending="plain")))

    def test_fewer_hosts_than_take_or_answer(self):
        hosts = (("a", "r", (4,)), ("b", "r", (5,)))
        for write, read, word in ((3, 1, "write"), (1, 3, "read"), (2, 2, None)):
            case = halted(Plan(Ring(9, 3, "hosts", write, read, "plain", hosts)))
            self.assertEqual(case and case[1:], word and (0, word))

    def test_one_key_of_all(self):
        # With a down, the key 5 alone has no keeper that is up.
        hosts = (("b", "r", (4,)), ("a", "r", (5,)))
        for points in (7, MOST):
            ring = Ring(points, 1, "hosts", 1, 1, "plain", hosts)
            plan = Plan(ring, (("wipe", "b"), ("down", "a")))
            self.assertIn(halted(plan), ((5, 2, "write"), (5, 2, "read")))

    def test_the_most_of_all(self):
        for write, read in ((5, 1), (1, 5), (3, 3)):
            plan = full_plan(write, read, "with")
            self.assertIs(is_able(plan), True)
            ends = Plan(plan.ring, plan.steps[:-1] + (("down", plan.ring.names[7]),))
            case = halted(ends)
            self.assertEqual(case is None, write + 1 < 5 and read < 5)
            if case is not None:
                self.assertEqual(case[1], 24)
                self.assertIn(plan.ring.names[7], ends.keepers(case[0], 24) + ends.pendings(case[0], 24))


if __name__ == "__main__":
    unittest.main()
