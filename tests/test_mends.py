"""Promises 10 and 11 of stage 3: the least sets of further steps that mend a plan, and wrong ones ([2], [5], [16])."""

import unittest
from itertools import combinations

from ringshares.errors import InvalidFurther, InvalidWishes, NotAPlan
from ringshares.fates import is_safe
from ringshares.mends import holds, mends
from ringshares.plans import Plan
from ringshares.rings import Ring
from tests.fate_models import (
    JOIN, SETTLE, WHOLE, all_halts, changes_of, keys_with_loss, of_many_points, plain_plan, ruled_otherwise,
    steps_between, widened_step,
)
from tests.models import free_points, plain_states, ring_with, small_rings, table, widened
from tests.support import (
    NAMES, NO_NAMES, ODD_VALUES, PLAIN_TEXT, EqualToAll, Numbers, assert_raises_with, plain_ring,
)
from tests.test_wishes import NO_PLAN_WISHES, fewest_racks

WIDTH = 10 ** 16
SAFE = (("safe",),)


def is_plain_wish_held(plan, wish):
    """Tells whether a wish holds for a plan of a small ring, by the plain models alone."""
    states = plain_states(plan.ring, plan.steps)
    match wish:
        case ("safe",):
            return not keys_with_loss(plan)
        case ("able",):
            return not all_halts(plan)
        case ("racks", many):
            return all(fewest_racks(plan.ring, hosts) >= many for hosts, _, _ in states)
        case ("like", text):
            return table(Ring.read(text)) == table(ring_with(plan.ring, states[-1][0]))
        case ("calm",):
            return states[-1][1] is None


def put_in(steps, chosen):
    """Returns a row of steps with further ones put in, the last place first."""
    rows = list(steps)
    for place in range(len(steps), -1, -1):
        rows[place:place] = [step for at, step in chosen if at == place]
    return tuple(rows)


def plain_mends(plan, wishes, further):
    """Returns the least sets of further steps, all sets tried and none left out ahead."""
    mending = []
    for many in range(len(further) + 1):
        for places in combinations(range(len(further)), many):
            steps = put_in(plan.steps, [further[place] for place in places])
            if len(steps) <= 24 and len(plain_states(plan.ring, steps)) == len(steps) + 1:
                if all(is_plain_wish_held(Plan(plan.ring, steps), wish) for wish in wishes):
                    mending.append(places)
    return tuple(places for places in mending if not any(set(other) < set(places) for other in mending))


def some_further(plan, left_out, numbers):
    """Returns up to six further steps: those that were left out, at their places, and steps of all kinds."""
    steps = left_out + steps_between(plan.ring, numbers) + [SETTLE, (), ("copy",), ("settle", "a"), (None,)]
    pairs = [(len(plan) if step == SETTLE else 1, step) for step in left_out]
    pairs += [(numbers.below(len(plan) + 1), step) for step in numbers.chosen(steps, 3)]
    return tuple(numbers.chosen(pairs[:6], min(len(pairs), 4 + numbers.below(3))))


def some_wishes(plan, numbers):
    """Returns up to three wishes for a plan."""
    wishes = [("safe",), ("safe",), ("able",), ("calm",), ("racks", 1 + numbers.below(2)),
              ("like", str(plan.counting(len(plan)))), ("like", str(plan.ring))]
    return tuple(numbers.chosen(wishes, numbers.below(4)))


def meeting(ring, numbers):
    """Returns the ring with pendings counted, and writes and reads that meet."""
    write = 1 + numbers.below(ring.factor)
    return ring.ruled(write, ring.factor + 1 - write, "with")


def some_cases():
    """Returns plans with some copies or the settling left out, wishes for them, and further steps."""
    numbers = Numbers(16)
    cases = []
    rings = [ring for ring in small_rings() if 1 < len(ring) < 6 and free_points(ring)][::2]
    for ring in [plain_ring()] * 16 + rings:
        for steps in changes_of(ring, numbers):
            left_out = numbers.chosen(steps[1:], min(len(steps) - 1, 1 + numbers.below(4)))
            kept = tuple(step for step in steps if step not in left_out)
            for rules in (meeting(ring, numbers), ruled_otherwise(ring, numbers)):
                plan = Plan(rules, kept)
                cases.append((plan, SAFE + (("calm",),), some_further(plan, left_out, numbers)))
                cases.append((plan, some_wishes(plan, numbers), some_further(plan, left_out, numbers)))
    return cases


CASES = some_cases()


class Mends(unittest.TestCase):
    def test_the_example_of_the_document(self):
        bare = plain_plan(JOIN, SETTLE)
        further = ((1, ("copy", "d", "a")), (1, ("copy", "d", "b")), (0, ("copy", "d", "a")), (1, ("copy", "d", "c")))
        self.assertEqual(mends(bare, SAFE, further), ((0, 1),))

    def test_all_sets_tried(self):
        seen = set()
        for plan, wishes, further in CASES:
            told = mends(plan, wishes, further)
            self.assertEqual(told, plain_mends(plan, wishes, further), (str(plan), wishes, further))
            self.assertEqual(mends(further=further, wishes=wishes, plan=plan), told)
            seen.add((len(told) > 1, max([len(places) for places in told], default=None)))
        self.assertTrue({(False, None), (False, 0), (False, 1), (False, 2), (False, 3), (True, 1), (True, 2)} <= seen)

    def test_on_many_points(self):
        for plan, wishes, further in CASES[::7]:
            large = tuple((place, widened_step(step, WIDTH) if len(step) == 4 else step) for place, step in further)
            wide = tuple(("like", str(widened(Ring.read(wish[1]), WIDTH))) if wish[0] == "like" else wish for wish in wishes)
            self.assertEqual(mends(of_many_points(plan, WIDTH), wide, large), mends(plan, wishes, further))

    def test_with_each_set_it_is_safe_and_with_none_of_its_steps_left_out(self):
        many = 0
        for plan, wishes, further in CASES:
            for places in mends(plan, wishes, further):
                chosen = [further[place] for place in places]
                later = Plan(plan.ring, put_in(plan.steps, chosen))
                self.assertTrue(all(holds(later, wish) for wish in wishes))
                for k in range(len(chosen)):
                    steps = put_in(plan.steps, chosen[:k] + chosen[k + 1:])
                    fits = len(plain_states(plan.ring, steps)) == len(steps) + 1
                    self.assertFalse(fits and all(holds(Plan(plan.ring, steps), wish) for wish in wishes))
                    many += 1
        self.assertGreater(many, 20)

    def test_the_empty_set(self):
        whole = plain_plan(*WHOLE)
        further = ((1, ("copy", "d", "a")), (0, ()))
        for told, plan, wishes in (
            (((),), whole, SAFE), (((),), whole, ()), (((),), plain_plan(JOIN, SETTLE), ()),
            ((), plain_plan(JOIN, SETTLE), SAFE),
        ):
            self.assertEqual(mends(plan, wishes, ()), told)
            if told:
                self.assertEqual(mends(plan, wishes, further), told)

    def test_some_twice_at_one_place(self):
        bare = plain_plan(JOIN, SETTLE)
        one, other = (1, ("copy", "d", "a")), (1, ("copy", "d", "b"))
        self.assertEqual(mends(bare, SAFE, (one, one, other)), ((0, 2), (1, 2)))
        self.assertEqual(mends(bare, SAFE, (one, other, one, other)), ((0, 1), (0, 3), (1, 2), (2, 3)))

    def test_in_the_order_in_which_they_are_told(self):
        empty = plain_plan(write=2, read=1)
        down, up = (0, ("down", "a")), (0, ("up", "a"))
        like = ("like", str(plain_ring().left("a")))
        leave, settle = (0, ("leave", "a")), (0, SETTLE)
        self.assertEqual(mends(empty, (like,), (down, up, leave, settle)), ((2, 3),))
        self.assertEqual(mends(empty, (like,), (settle, leave, settle)), ((1, 2),))
        self.assertEqual(mends(empty, (like,), (settle, leave)), ())
        fallen = plain_plan(("down", "b"))
        self.assertEqual(mends(fallen, (("calm",), ("racks", 1)), ((1, ("up", "b")),)), ((),))
        self.assertEqual(mends(fallen, (like,), ((1, ("leave", "a")), (0, SETTLE), (1, SETTLE))), ((0, 2),))

    def test_a_larger_set_may_be_least_beside_a_smaller_one(self):
        bare = plain_plan(JOIN, SETTLE)
        further = ((1, ("copy", "d", "a")), (1, ("copy", "d", "b")), (2, ("leave", "d")), (2, SETTLE),
                   (0, ("down", "c")), (0, ("up", "c")))
        self.assertEqual(mends(bare, SAFE, further), plain_mends(bare, SAFE, further))
        like = ("like", str(plain_ring()))
        self.assertEqual(mends(bare, (like,), further), ((2, 3),))
        self.assertEqual(mends(bare, (like,) + SAFE, further), plain_mends(bare, (like,) + SAFE, further))

    def test_steps_that_mend_alone_but_not_together(self):
        plan = plain_plan(JOIN)
        further = ((1, SETTLE), (1, ("copy", "d", "a")), (1, SETTLE), (0, SETTLE))
        self.assertEqual(mends(plan, (("calm",),), further), ((0,), (2,)))

    def test_no_set_of_more_than_24_steps(self):
        full = plain_plan(*((("wipe", "a"),) * 23))
        further = tuple((place, ("leave", "a")) for place in (0, 23)) + ((23, SETTLE),)
        like = ("like", str(plain_ring().left("a")))
        self.assertEqual(mends(full, (like,), further), ())
        less = plain_plan(*((("wipe", "b"),) * 22))
        self.assertEqual(mends(less, (like,), ((22, ("leave", "a")), (22, SETTLE))), ((0, 1),))
        most = plain_plan(*((("repair", "a", "b"),) * 24))
        self.assertEqual([mends(most, SAFE, ((24, SETTLE),)), mends(most, (like,), ((24, ("wipe", "a")),))], [((),), ()])

    def test_a_wish_that_none_can_mend(self):
        bare = plain_plan(JOIN, SETTLE)
        for wishes in ((("racks", 3),), (("racks", 5), ("calm",)), (("able",), ("racks", 3))):
            self.assertEqual(mends(bare, wishes, ((1, ("copy", "d", "a")), (2, ("down", "a")))), ())

    def test_six_of_each(self):
        bare = plain_plan(JOIN, SETTLE)
        wishes = (("safe",), ("able",), ("calm",), ("racks", 1), ("safe",), ("calm",))
        further = tuple((1, ("copy", "d", name)) for name in "abcabc")
        self.assertEqual(mends(bare, wishes, further), ((0, 1), (0, 4), (1, 3), (3, 4)))
        self.assertTrue(is_safe(Plan(bare.ring, put_in(bare.steps, further[:2]))))


class Refused(unittest.TestCase):
    def test_what_is_no_plan(self):
        for value in NO_NAMES + NAMES + (PLAIN_TEXT, plain_ring(), (plain_plan(),)):
            for rest in ((SAFE, ()), (None, None), (("x",), ("x",))):
                assert_raises_with(self, NotAPlan, "given", value, mends, value, *rest)
            assert_raises_with(self, NotAPlan, "given", value, mends, further=(), wishes=(), plan=value)

    def assert_wishes_refused(self, index, plan, wishes):
        for further in ((), None, (None,)):
            assert_raises_with(self, InvalidWishes, "index", index, mends, plan, wishes, further)
        assert_raises_with(self, InvalidWishes, "index", index, mends, further=(), wishes=wishes, plan=plan)

    def test_what_is_no_tuple_of_wishes(self):
        for value in NO_NAMES + NAMES + ("safe", list(SAFE), {("safe",): 1}, iter(SAFE), EqualToAll()):
            if not isinstance(value, tuple):
                self.assert_wishes_refused(None, plain_plan(), value)

    def test_the_index_of_the_first_that_is_none(self):
        rights = (("safe",), ("racks", 5), ("like", PLAIN_TEXT), ("calm",), ("able",), ("safe",))
        for value in NO_PLAN_WISHES:
            for index in (0, 1, 5):
                self.assert_wishes_refused(index, plain_plan(JOIN), rights[:index] + (value,))
            self.assert_wishes_refused(2, plain_plan(), rights[:2] + (value, value) + rights)
        self.assert_wishes_refused(0, plain_plan(), ("safe",))
        for many in (7, 8, 30):
            self.assert_wishes_refused(6, plain_plan(), SAFE * many)
        for value in (None, (), ("racks", 0)):
            self.assert_wishes_refused(6, plain_plan(), rights + (value,))
            self.assert_wishes_refused(5, plain_plan(), rights[:5] + (value, value))

    def assert_further_refused(self, index, plan, further):
        assert_raises_with(self, InvalidFurther, "index", index, mends, plan, SAFE, further)
        assert_raises_with(self, InvalidFurther, "index", index, mends, further=further, wishes=(), plan=plan)

    def test_what_is_no_tuple_of_further_steps(self):
        for value in NO_NAMES + NAMES + ([(0, SETTLE)], {(0, SETTLE): 1}, iter(()), 0, EqualToAll()):
            if not isinstance(value, tuple):
                self.assert_further_refused(None, plain_plan(), value)

    def test_the_index_of_the_first_that_is_no_pair(self):
        right = (1, SETTLE)
        places = ODD_VALUES + (-1, 3, 4, 25, 10 ** 39, -10 ** 39, "0", "1", (0,))
        wrong = ODD_VALUES + tuple((value, SETTLE) for value in places) + (
            (0,), (0, SETTLE, SETTLE), (SETTLE, 0), (SETTLE,), SETTLE, [0, SETTLE], (0, 0), "ab", (), {0: SETTLE},
        ) + tuple((0, value) for value in ODD_VALUES if not isinstance(value, tuple)) + ((0, "settle"), (0, ["settle"]))
        for value in wrong:
            for index in (0, 2, 5):
                self.assert_further_refused(index, plain_plan(JOIN, SETTLE), (right,) * index + (value,))
                self.assert_further_refused(
                    index, plain_plan(JOIN, SETTLE), (right,) * index + (value, value, right) + (right,) * 6)
            self.assert_further_refused(6, plain_plan(JOIN, SETTLE), (right,) * 6 + (value,))
        for many in (7, 8, 30):
            self.assert_further_refused(6, plain_plan(JOIN, SETTLE), (right,) * many)
        self.assert_further_refused(0, plain_plan(JOIN, SETTLE), right)

    def test_places_up_to_the_number_of_steps(self):
        for plan in (plain_plan(), plain_plan(JOIN), plain_plan(*WHOLE), plain_plan(*((("wipe", "a"),) * 24))):
            for place in range(len(plan) + 1):
                self.assertEqual(mends(plan, (), ((place, ()),)), ((),))
            self.assert_further_refused(0, plan, ((len(plan) + 1, ()),))
            self.assert_further_refused(1, plan, ((0, ()), (-1, SETTLE)))

    def test_any_tuple_may_stand_for_a_step(self):
        for value in ODD_VALUES + ((EqualToAll(),), (EqualToAll(), "a"), ("settle", EqualToAll()), ("join",), (SETTLE,)):
            if isinstance(value, tuple):
                self.assertEqual(mends(plain_plan(JOIN), (("calm",),), ((1, value), (1, SETTLE))), ((1,),))

    def test_plans_stay_as_they_were(self):
        plan = plain_plan(JOIN, SETTLE)
        text = str(plan)
        mends(plan, SAFE, ((1, ("copy", "d", "a")), (1, ("copy", "d", "b"))))
        self.assertRaises(InvalidFurther, mends, plan, SAFE, None)
        self.assertEqual((str(plan), len(plan)), (text, 2))


if __name__ == "__main__":
    unittest.main()
