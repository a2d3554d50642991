"""Promises 10 and 12 of stage 2: which steps fit behind which, and the rings and keepers at each moment ([10], [11])."""

import unittest

from ringshares.errors import InvalidStep, InvalidSteps
from ringshares.plans import Plan
from ringshares.rings import Ring
from tests.models import (
    MOST, every_step, free_points, plain_states, plain_step, ring_with, small_rings, widened,
)
from tests.support import (
    APART_TEXT, NO_NAMES, ODD_VALUES, Numbers, assert_raises_with, full_hosts, plain_keepers, plain_ring,
)

JOIN = ("join", "d", "r2", (0,))


def some_rings():
    """Returns small rings of one to five hosts of both spreads, with points that are free."""
    rings = [ring for ring in small_rings() if len(ring) < 6 and free_points(ring)]
    return [plain_ring(), Ring.read(APART_TEXT)] + rings[::7]


def joins_for(ring, numbers):
    """Returns steps that a ring takes, and some that it never takes."""
    free = free_points(ring)
    marks = tuple(sorted(numbers.chosen(free, 1 + numbers.below(min(len(free), 4)))))
    return [
        ("join", "new", "r0", marks), ("join", "old", "r1", tuple(free[:1])), ("join", ring.names[0], "r0", marks),
        ("join", "bad", "r1", ring.hosts[0][2]), ("join", "bad", "r1", ()),
    ]


def mixed_plans(rings, length):
    """Returns for each ring a long row of steps of which all fit, by the plain model, and the steps to try."""
    numbers = Numbers(10)
    rows = []
    for ring in rings:
        tried = every_step(ring, joins_for(ring, numbers))
        steps = []
        state = (ring.hosts, None, set())
        while len(steps) < length:
            fitting = [step for step in tried if plain_step(state, step, ring.points)]
            # Each kind of step comes as often as another one, whatever many names there are.
            word = sorted({step[0] for step in fitting})[numbers.below(len({step[0] for step in fitting}))]
            step = numbers.chosen([step for step in fitting if step[0] == word], 1)[0]
            state = plain_step(state, step, ring.points)
            steps.append(step)
        rows.append((ring, tuple(steps), tried))
    return rows


class Fitting(unittest.TestCase):
    def assert_like_state(self, plan, moment, state):
        """Holds the rings and who is down at a moment against the plain model."""
        hosts, later, down = state
        self.assertEqual(plan.counting(moment), ring_with(plan.ring, hosts))
        if later is None:
            self.assertIsNone(plan.coming(moment=moment))
        else:
            self.assertEqual(plan.coming(moment=moment), ring_with(plan.ring, later))
        self.assertEqual(plan.fallen(moment), tuple(sorted(down)))

    def assert_tried(self, plan, state, tried):
        """Holds that of all steps just those of the model fit behind a plan."""
        for step in tried:
            behind = plain_step(state, step, plan.ring.points)
            if behind is None:
                assert_raises_with(self, InvalidStep, "given", step, plan.then, step)
                assert_raises_with(self, InvalidSteps, "index", len(plan), Plan, plan.ring, plan.steps + (step,))
            else:
                more = plan.then(step)
                self.assertEqual(more.steps, plan.steps + (step,))
                self.assert_like_state(more, len(more), behind)

    def test_every_kind_of_step_behind_every_moment(self):
        words = set()
        for ring, steps, tried in mixed_plans(some_rings(), 18):
            plan = Plan(ring)
            states = plain_states(ring, steps)
            self.assertEqual(len(states), 19)
            for step, state in zip(steps, states):
                self.assert_tried(plan, state, tried)
                plan = plan.then(step)
                words.add(step[0])
        self.assertEqual(words, {"join", "leave", "copy", "settle", "down", "up", "wipe", "repair"})

    def test_all_at_once_and_one_by_one(self):
        for ring, steps, _ in mixed_plans(some_rings(), 24):
            plan = Plan(ring)
            for k, step in enumerate(steps):
                plan = plan.then(step=step) if k % 2 else plan.then(step)
                self.assertEqual(plan, Plan(ring, steps[:k + 1]))
            self.assertEqual([plan, len(plan)], [Plan(steps=steps, ring=ring), 24])
            for moment, state in enumerate(plain_states(ring, steps)):
                self.assert_like_state(plan, moment, state)

    def test_twenty_four_steps_and_no_twenty_fifth(self):
        ring = plain_ring()
        steps = (("wipe", "a"),) * 24
        plan = Plan(ring, steps)
        self.assertEqual([len(plan), len(Plan(ring, steps[:23]).then(("wipe", "a")))], [24, 24])
        for step in (("wipe", "a"), JOIN, ("wipe", "zz"), None, ()):
            assert_raises_with(self, InvalidStep, "given", step, plan.then, step)
            assert_raises_with(self, InvalidSteps, "index", 24, Plan, ring, steps + (step,))
            assert_raises_with(self, InvalidSteps, "index", 24, Plan, ring, steps + (step, step))
        assert_raises_with(self, InvalidSteps, "index", 23, Plan, ring, steps[:23] + (None, JOIN))
        assert_raises_with(self, InvalidSteps, "index", 24, Plan, ring, steps * 30)

    def test_a_change_is_under_way_until_it_is_settled(self):
        for first in (JOIN, ("leave", "b")):
            plan = Plan(plain_ring())
            for step in (("settle",), ("copy", "a", "b")):
                self.assertRaises(InvalidStep, plan.then, step)
            plan = plan.then(first)
            for step in (("join", "e", "r", (1,)), ("leave", "a"), first):
                self.assertRaises(InvalidStep, plan.then, step)
            plan = plan.then(("settle",))
            for step in (("settle",), ("copy", "a", "c")):
                self.assertRaises(InvalidStep, plan.then, step)
            self.assertEqual(len(plan.then(("join", "e", "r", (1,)))), 3)

    def test_who_gives_and_who_takes(self):
        joining = Plan(plain_ring(), (JOIN,))
        for taker, giver in ("da", "db", "ab", "ba", "cb"):
            self.assertEqual(joining.then(("copy", taker, giver)).coming(2), joining.coming(1))
        for taker, giver in ("ad", "aa", "dd", "az", "za"):
            self.assertRaises(InvalidStep, joining.then, ("copy", taker, giver))
        for taker, giver in ("da", "ad", "aa", "dd"):
            self.assertRaises(InvalidStep, joining.then, ("repair", taker, giver))
        leaving = Plan(plain_ring(), (("leave", "b"),))
        for taker, giver in ("ab", "cb", "ac", "ca"):
            self.assertEqual(len(leaving.then(("copy", taker, giver))), 2)
        for taker, giver in ("ba", "bc"):
            self.assertRaises(InvalidStep, leaving.then, ("copy", taker, giver))
            self.assertEqual(len(leaving.then(("repair", taker, giver))), 2)

    def test_both_sides_of_a_copy_and_a_repair_are_up(self):
        for name in "ad":
            plan = Plan(plain_ring(), (JOIN, ("down", name)))
            assert_raises_with(self, InvalidSteps, "index", 2, Plan, plain_ring(), plan.steps + (("copy", "d", "a"),))
            self.assertEqual(plan.then(("up", name)).then(("copy", "d", "a")).fallen(4), ())
        for name in "bc":
            plan = Plan(plain_ring(), (("down", name),))
            self.assertRaises(InvalidStep, plan.then, ("repair", "b", "c"))
            self.assertEqual(plan.then(("wipe", name)).fallen(2), (name,))
            self.assertRaises(InvalidStep, plan.then, ("down", name))
            self.assertRaises(InvalidStep, Plan(plain_ring()).then, ("up", name))

    def test_a_host_that_is_in_no_ring_more_is_forgotten(self):
        steps = (("down", "b"), ("down", "a"), ("leave", "b"), ("settle",))
        plan = Plan(plain_ring(), steps)
        self.assertEqual([plan.fallen(k) for k in range(5)], [(), ("b",), ("a", "b"), ("a", "b"), ("a",)])
        for step in (("up", "b"), ("down", "b"), ("wipe", "b"), ("leave", "b"), ("repair", "c", "b")):
            self.assertRaises(InvalidStep, plan.then, step)
        again = plan.then(("join", "b", "r7", (5,)))
        self.assertEqual([again.fallen(5), again.coming(5)["b"]], [("a",), ("r7", (5,))])
        self.assertEqual(again.then(("down", "b")).fallen(6), ("a", "b"))

    def test_the_host_that_joins_goes_down_before_it_is_settled(self):
        plan = Plan(plain_ring(), (JOIN, ("down", "d"), ("wipe", "d"), ("settle",), ("up", "d")))
        self.assertEqual([plan.fallen(k) for k in range(6)], [(), (), ("d",), ("d",), ("d",), ()])

    def test_the_last_host_and_the_thirteenth(self):
        one = Plan(Ring(9, 1, "hosts", 1, 1, "plain", (("a", "r", (3,)),)))
        self.assertRaises(InvalidStep, one.then, ("leave", "a"))
        two = one.then(("join", "b", "r", (4,)))
        self.assertRaises(InvalidStep, two.then, ("leave", "a"))
        self.assertEqual(two.then(("settle",)).then(("leave", "a")).coming(3).names, ("b",))
        full = Plan(Ring(111, 1, "hosts", 1, 1, "plain", full_hosts()))
        self.assertRaises(InvalidStep, full.then, ("join", "d", "r", (1,)))
        less = full.then(("leave", "h3")).then(("settle",))
        self.assertEqual(len(less.then(("join", "d", "r", (1,))).coming(3)), 12)

    def test_marks_of_a_join(self):
        plan = Plan(Ring(40, 1, "hosts", 1, 1, "plain", (("a", "r", (3, 39)),)))
        for marks in ((0,), tuple(range(4, 20)), (0, 38)):
            self.assertEqual(plan.then(("join", "b", "a", marks)).coming(1)["b"], ("a", marks))
        for marks in ODD_VALUES + ((), (3,), (0, 39), (40,), (-1,), (1, 0), (1, 1), tuple(range(4, 21)), [0], 0):
            step = ("join", "b", "a", marks)
            assert_raises_with(self, InvalidStep, "given", step, plan.then, step)
        for value in NO_NAMES:
            self.assertRaises(InvalidStep, plan.then, ("join", value, "r", (0,)))
            self.assertRaises(InvalidStep, plan.then, ("join", "b", value, (0,)))


class Keepers(unittest.TestCase):
    def test_those_of_the_rings_that_the_steps_make(self):
        for ring, steps, _ in mixed_plans(some_rings(), 16):
            plan = Plan(ring, steps)
            for moment, (hosts, later, _) in enumerate(plain_states(ring, steps)):
                for key in range(ring.points):
                    keepers = plain_keepers(ring_with(ring, hosts), key)
                    coming = () if later is None else plain_keepers(ring_with(ring, later), key)
                    pendings = tuple(name for name in coming if name not in keepers)
                    self.assertEqual(plan.keepers(key, moment), keepers)
                    self.assertEqual(plan.keepers(moment=moment, point=key), keepers)
                    self.assertEqual(plan.pendings(key, moment), pendings)
                    self.assertEqual(plan.pendings(moment=moment, point=key), pendings)
                    self.assertLessEqual(len(pendings), 1)
                    self.assertIs(type(plan.pendings(key, moment)), tuple)

    def test_none_pending_without_a_change(self):
        plan = Plan(plain_ring(), (("down", "a"), JOIN, ("settle",), ("wipe", "b"), ("leave", "a")))
        pending = [[plan.pendings(key, moment) for key in range(12)] for moment in range(6)]
        for moment in (0, 1, 3, 4):
            self.assertEqual(pending[moment], [()] * 12)
        self.assertEqual(pending[2], [("d",)] + [()] * 5 + [("d",)] * 6)
        self.assertEqual(pending[5], [("b",), ("c",), ("c",)] + [()] * 7 + [("b",), ("b",)])

    def test_on_the_most_points(self):
        width = 10 ** 16
        small = Plan(plain_ring(), (JOIN, ("settle",), ("leave", "b")))
        large = Plan(widened(plain_ring(), width), (("join", "d", "r2", (width - 1,)), ("settle",), ("leave", "b")))
        for moment in range(4):
            for key in range(12):
                for more in (0, width // 2, width - 1):
                    point = key * width + more
                    self.assertEqual(large.keepers(point, moment), small.keepers(key, moment))
                    self.assertEqual(large.pendings(point, moment), small.pendings(key, moment))
        full = Plan(Ring(MOST, 1, "hosts", 1, 1, "plain", (("a", "r", (0,)),)), (("join", "b", "r", (MOST - 1,)),))
        self.assertEqual([full.pendings(key, 1) for key in (0, 1, MOST - 1)], [(), ("b",), ("b",)])


if __name__ == "__main__":
    unittest.main()
