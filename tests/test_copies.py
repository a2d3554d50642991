"""Promise 6 of stage 3: the copies that a change needs, and the plan that does it ([2], [10], [12])."""

import unittest

from ringshares.copies import change, copies
from ringshares.errors import InvalidStep, NoRoom, NotARing
from ringshares.fates import is_safe
from ringshares.plans import Plan
from ringshares.rings import Ring
from tests.fate_models import JOIN, SETTLE, WHOLE, copies_of, widened_step
from tests.models import free_points, small_rings, widened
from tests.support import (
    APART_TEXT, NAMES, NO_NAMES, ODD_VALUES, PLAIN_TEXT, EqualToAll, Numbers, assert_raises_with, full_hosts, plain_ring,
)
from tests.test_plans_refused import NO_STEPS

WIDTH = 10 ** 16
NO_RINGS = tuple(value for value in NO_NAMES + NAMES if not isinstance(value, Ring)) + (
    PLAIN_TEXT, plain_ring().hosts, (plain_ring(),), Plan(plain_ring()),
)
# These fit as first steps, or could fit later; none is a join or a leave that fits at first.
OTHER_STEPS = (
    ("down", "a"), ("wipe", "a"), ("repair", "a", "b"), ("settle",), ("up", "a"), ("copy", "a", "b"),
    ("leave", "d"), ("leave", "A"), ("leave", EqualToAll()), ("join", "a", "r", (0,)), ("join", "d", "r", (2,)),
    ("join", "d", "r", (12,)), ("join", "d", "R", (0,)), ("join", "d", "r", (0, 0)), ("leave", "a", "b"),
)


def steps_for(ring, numbers):
    """Returns joins and leaves that fit as first steps."""
    free = free_points(ring)
    steps = [("leave", name) for name in ring.names if len(ring) > 1]
    if free and len(ring) < 12:
        for rack in ("r0", "new"):
            marks = numbers.chosen(free, 1 + numbers.below(min(len(free), 16)))
            steps.append(("join", "new", rack, tuple(sorted(marks))))
    return steps


def rings_and_steps():
    numbers = Numbers(6)
    return [(ring, step) for ring in small_rings() + [plain_ring(), Ring.read(APART_TEXT)]
            for step in steps_for(ring, numbers)]


class Copies(unittest.TestCase):
    def test_the_examples_of_the_document(self):
        plain = plain_ring()
        self.assertEqual([copies(plain, JOIN), copies(plain, ("leave", "b")), change(plain, JOIN)], [
            (("copy", "d", "a"), ("copy", "d", "b"), ("copy", "d", "c")),
            (("copy", "a", "b"), ("copy", "a", "c"), ("copy", "c", "a"), ("copy", "c", "b")), Plan(plain, WHOLE),
        ])

    def test_key_by_key(self):
        seen = set()
        for ring, step in rings_and_steps():
            told = copies(ring, step)
            self.assertEqual(told, copies_of(ring, Plan(ring, (step,)).coming(1)))
            self.assertEqual(copies(step=step, ring=ring), told)
            seen.add((step[0], ring.spread, min(len(told), 23)))
        self.assertTrue({("join", "racks", 1), ("leave", "hosts", 0), ("leave", "racks", 23)} <= seen, seen)

    def test_on_many_points(self):
        for ring, step in rings_and_steps()[::5]:
            self.assertEqual(copies(widened(ring, WIDTH), widened_step(step, WIDTH)), copies(ring, step))

    def test_racks_want_other_copies(self):
        apart = Ring.read(APART_TEXT)
        self.assertEqual(copies(apart, ("leave", "b")), (("copy", "a", "b"), ("copy", "a", "c")))
        self.assertEqual(copies(apart, ("leave", "a")), (("copy", "b", "a"), ("copy", "b", "c")))


class Change(unittest.TestCase):
    def test_the_step_these_copies_and_settling(self):
        seen = set()
        for ring, step in rings_and_steps():
            steps = (step,) + copies(ring, step) + (SETTLE,)
            if len(steps) <= 24:
                plan = change(ring, step)
                self.assertEqual(plan, Plan(ring, steps))
                self.assertEqual(change(step=step, ring=ring), plan)
                seen.add(len(steps))
            else:
                with self.assertRaises(NoRoom) as caught:
                    change(ring, step)
                self.assertEqual(caught.exception.given, len(steps))
        self.assertTrue({2, 3, 23, 24} <= seen, seen)

    def test_safe_if_writes_and_reads_meet_and_pendings_are_counted(self):
        many = 0
        for ring, step in rings_and_steps()[::3]:
            keepers = min(ring.factor, max(len(ring), len(Plan(ring, (step,)).coming(1))))
            for write in range(1, keepers + 1):
                read = keepers + 1 - write
                if len(copies(ring, step)) <= 22:
                    self.assertTrue(is_safe(change(ring.ruled(write, read, "with"), step)), (str(ring), step))
                    many += 1
        self.assertGreater(many, 300)

    def test_not_safe_with_fewer_takers_or_answerers(self):
        for ring, step in rings_and_steps()[::3]:
            keepers = min(ring.factor, len(ring))
            for write in range(1, keepers):
                if len(copies(ring, step)) <= 22:
                    self.assertFalse(is_safe(change(ring.ruled(write, keepers - write, "with"), step)))


class Refused(unittest.TestCase):
    def test_what_is_no_ring(self):
        for value in NO_RINGS:
            for call in (copies, change):
                for step in (JOIN, None, ("settle",)):
                    assert_raises_with(self, NotARing, "given", value, call, value, step)
                    assert_raises_with(self, NotARing, "given", value, call, step=step, ring=value)

    def test_what_is_no_join_or_leave_that_fits_at_first(self):
        one = Ring(12, 2, "hosts", 1, 1, "plain", (("a", "r", (4,)),))
        for value in NO_STEPS + OTHER_STEPS + ODD_VALUES:
            for call in (copies, change):
                assert_raises_with(self, InvalidStep, "given", value, call, plain_ring(), value)
                assert_raises_with(self, InvalidStep, "given", value, call, step=value, ring=plain_ring())
        for call in (copies, change):
            for step in (("leave", "a"), ("leave", "b")):
                assert_raises_with(self, InvalidStep, "given", step, call, one, step)

    def test_a_thirteenth_host(self):
        full = Ring(111, 1, "hosts", 1, 1, "plain", full_hosts())
        for call in (copies, change):
            step = ("join", "d", "r", (1,))
            assert_raises_with(self, InvalidStep, "given", step, call, full, step)

    def test_no_room_with_the_number_of_steps(self):
        # Each of the eleven others takes keys of h0, which has a mark ahead of each of them.
        hosts = (("h0", "r", tuple(range(0, 110, 10))),) + tuple((f"h{k}", "r", (10 * k - 5,)) for k in range(1, 12))
        told = []
        for factor in (1, 2, 3, 5):
            ring = Ring(111, factor, "hosts", 1, 1, "plain", hosts)
            many = len(copies(ring, ("leave", "h0"))) + 2
            told.append(many)
            if many > 24:
                for named in ({"ring": ring, "step": ("leave", "h0")}, {"step": ("leave", "h0"), "ring": ring}):
                    with self.assertRaises(NoRoom) as caught:
                        change(**named)
                    self.assertEqual((caught.exception.given, type(caught.exception.given)), (many, int))
            else:
                self.assertEqual(len(change(ring, ("leave", "h0"))), many)
        self.assertEqual((told[0] <= 24, told[-1] > 24, told), (True, True, sorted(told)))


if __name__ == "__main__":
    unittest.main()
