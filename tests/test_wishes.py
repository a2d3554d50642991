"""Promises 8 and 9 of stage 3: wishes for plans and for rings, and values that are none ([16], [17])."""

import unittest

from ringshares.errors import InvalidWish, NotAPlan, NotARing
from ringshares.mends import holds, stands
from ringshares.plans import Plan
from ringshares.rings import Ring
from tests.fate_models import (
    JOIN, SETTLE, WHOLE, all_halts, keys_with_loss, of_many_points, plain_plan, some_plans,
)
from tests.models import MOST, least_up, plain_states, ring_with, small_rings, table, widened
from tests.support import (
    APART_TEXT, NAMES, NO_NAMES, ODD_VALUES, PLAIN_HOSTS, PLAIN_TEXT, EqualToAll, assert_raises_with, plain_ring,
)

PLANS = some_plans()
WIDTH = 10 ** 16
OTHER_POINTS = PLAIN_TEXT.replace("ring 12 ", "ring 13 ")

# None of these is a wish of any kind.
NO_WISHES = ODD_VALUES + (
    "safe", "calm", ["safe"], {"safe": 1}, b"safe", ("Safe",), ("safe ",), (" safe",), ("saf",), ("safes",), ("sa fe",),
    (b"safe",), (["safe"],), (("safe",),), (EqualToAll(),), (EqualToAll(), 1), (EqualToAll(), "a", 1),
    ("safe", "able"), ("safe", None), ("safe", ()), ("safe", 1), ("able", True), ("calm", 0), ("calm", "calm"), ("unsafe",),
    ("racks",), ("racks", 0), ("racks", 6), ("racks", -1), ("racks", True), ("racks", False), ("racks", None),
    ("racks", "1"), ("racks", (1,)), ("racks", [1]), ("racks", 1, 1), ("racks", 10 ** 39), ("racks", EqualToAll()),
    ("Racks", 1), ("rack", 1), ["racks", 1], ("racks", b"1"), (("racks", 1),), ("racks", "racks"), ("racks", {}),
    ("like",), ("alike", PLAIN_TEXT), ("kin", PLAIN_TEXT), ("hosts", 1), ("plan",), ("join", "d", "r", (0,)), (1, 2), (0,),
)
PLAN_WISHES = (("safe",), ("able",), ("calm",), ("like", PLAIN_TEXT))
RING_WISHES = (("share", "a", 9), ("bears", "hosts", 1, 1), ("bears", "racks", 0, 0))
NO_PLAN_WISHES = NO_WISHES + RING_WISHES + (
    ("like", OTHER_POINTS), ("like", PLAIN_TEXT.replace("12", "11")), ("like", PLAIN_TEXT, PLAIN_TEXT), ("like", ""),
    ("like", PLAIN_TEXT + "\n"), ("like", PLAIN_TEXT + "\nplan"), ("like", " " + PLAIN_TEXT), ("like", PLAIN_TEXT[:-1]),
    ("like", PLAIN_TEXT.replace("ring 12", "ring 012")), ("like", PLAIN_TEXT.replace("host b", "host a")),
    ("like", plain_ring()), ("like", [PLAIN_TEXT]), ("like", (PLAIN_TEXT,)), ("like", None), ("like", EqualToAll()),
    ("like", PLAIN_TEXT.encode()), ("Like", PLAIN_TEXT), ["like", PLAIN_TEXT], ("like", 12), ("like", True),
    ("like", "ring " + "1" * 4400 + PLAIN_TEXT[7:]), ("like", "x" * 8000), ("like", "\n" * 8000),
)
NO_RING_WISHES = NO_WISHES + PLAN_WISHES + (
    ("share",), ("share", "a"), ("share", "a", 9, 9), ("share", "a", -1), ("share", "a", True), ("share", "a", False),
    ("share", "a", None), ("share", "a", "9"), ("share", "a", (9,)), ("share", "a", EqualToAll()), ("share", 9, "a"),
    ("share", ("a",), 9), ["share", "a", 9], ("Share", "a", 9), ("shares", "a", 9), ("share", "a", -10 ** 39),
    ("bears",), ("bears", "hosts"), ("bears", "hosts", 1), ("bears", "hosts", 1, 1, 1), ("bears", "host", 1, 1),
    ("bears", "Hosts", 1, 1), ("bears", "racks ", 1, 1), ("bears", "", 1, 1), ("bears", b"hosts", 1, 1),
    ("bears", EqualToAll(), 1, 1), ("bears", ["hosts"], 1, 1), ("bears", None, 1, 1), ("bears", 1, 1, 1),
    ("bears", "hosts", -1, 1), ("bears", "hosts", 13, 1), ("bears", "hosts", True, 1), ("bears", "hosts", "1", 1),
    ("bears", "hosts", 1, -1), ("bears", "hosts", 1, 6), ("bears", "hosts", 1, True), ("bears", "hosts", 1, None),
    ("bears", "hosts", 12, 6), ("bears", "racks", 13, 5), ("bears", "racks", EqualToAll(), 1), ("bear", "hosts", 1, 1),
    ("bears", "racks", 1, EqualToAll()), ("Bears", "hosts", 1, 1), ["bears", "hosts", 1, 1], ("a", ("racks", 1)),
) + tuple(("share", value, 9) for value in NO_NAMES)


def fewest_racks(ring, hosts):
    """Returns the least number of racks in which the keepers of a key stand in the ring with these hosts."""
    racks = {name: rack for name, rack, _ in hosts}
    return min(len({racks[name] for name in keepers}) for keepers in table(ring_with(ring, hosts)))


class ForPlans(unittest.TestCase):
    def assert_holds(self, plan, wish, told):
        self.assertIs(holds(plan, wish), told, (str(plan), wish))
        self.assertIs(holds(wish=wish, plan=plan), told)

    def test_the_examples_of_the_document(self):
        bare, whole = plain_plan(JOIN, SETTLE), plain_plan(*WHOLE)
        more = plain_ring().joined("d", "r2", (0,))
        self.assertEqual(
            [holds(bare, ("safe",)), holds(whole, ("racks", 1)), holds(whole, ("racks", 2)),
             holds(bare, ("like", str(more))), holds(bare, ("calm",))],
            [False, True, False, True, True],
        )

    def test_safe_and_able(self):
        for plan in PLANS[::2]:
            self.assert_holds(plan, ("safe",), not keys_with_loss(plan))
            self.assert_holds(plan, ("able",), not all_halts(plan))

    def test_racks_at_each_moment(self):
        seen = set()
        for plan in PLANS:
            rows = [fewest_racks(plan.ring, hosts) for hosts, _, _ in plain_states(plan.ring, plan.steps)]
            for many in range(1, 6):
                self.assert_holds(plan, ("racks", many), many <= min(rows))
            seen.add((rows[-1] > rows[0]) - (rows[-1] < rows[0]))
        self.assertEqual(seen, {-1, 0, 1})

    def test_racks_in_the_middle_of_a_plan(self):
        ring = Ring(12, 2, "racks", 1, 1, "plain", PLAIN_HOSTS)
        steps = (("leave", "c"), SETTLE, ("join", "c", "r2", (9,)), SETTLE)
        told = [holds(Plan(ring, steps[:many]), ("racks", 2)) for many in range(5)]
        self.assertEqual(told, [True, True, False, False, False])
        self.assertTrue(holds(Plan(ring.left("c"), steps[2:]), ("racks", 1)))
        self.assertFalse(holds(Plan(ring.left("c"), steps[2:]), ("racks", 2)))

    def test_like_the_ring_that_counts_at_the_end(self):
        for plan in PLANS[::2]:
            states = plain_states(plan.ring, plan.steps)
            last = table(ring_with(plan.ring, states[-1][0]))
            for hosts in [state[0] for state in states] + [state[1] for state in states if state[1]]:
                other = ring_with(plan.ring, hosts)
                self.assert_holds(plan, ("like", str(other)), table(other) == last)
                turned = Ring(plan.ring.points, plan.ring.factor, plan.ring.spread, 1, 1, "with", hosts[::-1])
                self.assert_holds(plan, ("like", str(turned)), table(other) == last)
            wider = Ring(plan.ring.points, 1, "hosts", 1, 1, "plain", states[-1][0])
            self.assert_holds(plan, ("like", str(wider)), table(wider) == last)

    def test_like_takes_heed_of_the_order(self):
        one = Ring(2, 2, "hosts", 1, 1, "plain", (("a", "r", (0,)), ("b", "r", (1,))))
        other = Ring(2, 2, "hosts", 1, 1, "plain", (("a", "r", (1,)), ("b", "r", (0,))))
        self.assertEqual([holds(Plan(one), ("like", str(ring))) for ring in (one, other)], [True, False])

    def test_calm(self):
        seen = set()
        for plan in PLANS:
            for many in range(len(plan) + 1):
                part = Plan(plan.ring, plan.steps[:many])
                told = plain_states(plan.ring, plan.steps[:many])[-1][1] is None
                self.assert_holds(part, ("calm",), told)
                seen.add(told)
        self.assertEqual(seen, {True, False})

    def test_on_many_points(self):
        for plan in PLANS[::8]:
            large = of_many_points(plan, WIDTH)
            for wish in (("safe",), ("able",), ("calm",)) + tuple(("racks", many) for many in range(1, 6)):
                self.assertEqual(holds(large, wish), holds(plan, wish))
            for moment in range(len(plan) + 1):
                wish = ("like", str(widened(plan.counting(moment), WIDTH)))
                self.assertEqual(holds(large, wish), holds(plan, ("like", str(plan.counting(moment)))))


class ForRings(unittest.TestCase):
    def assert_stands(self, ring, wish, told):
        self.assertIs(stands(ring, wish), told, (str(ring), wish))
        self.assertIs(stands(wish=wish, ring=ring), told)

    def test_the_examples_of_the_document(self):
        plain, apart = plain_ring(), Ring.read(APART_TEXT)
        self.assertEqual(
            [stands(plain, ("share", "a", 9)), stands(plain, ("share", "a", 8)), stands(apart, ("racks", 2)),
             stands(apart, ("bears", "hosts", 2, 1))],
            [True, False, True, False],
        )

    def test_shares(self):
        for ring in small_rings()[::2]:
            for name in ring.names:
                kept = sum(name in keepers for keepers in table(ring))
                for most in (0, kept - 1, kept, kept + 1, 10 ** 18, 10 ** 39):
                    if most >= 0:
                        self.assert_stands(ring, ("share", name, most), kept <= most)
            for name in ("zz", "r1", "host") + NAMES:
                if name not in ring.names:
                    self.assert_stands(ring, ("share", name, 10 ** 18), False)

    def test_bears(self):
        for ring in small_rings()[::5]:
            for kind in ("hosts", "racks"):
                for down in (0, 1, 2, 12):
                    up = least_up(ring, kind, down)
                    for left in range(6):
                        self.assert_stands(ring, ("bears", kind, down, left), left <= up)

    def test_racks(self):
        for ring in small_rings():
            for many in range(1, 6):
                self.assert_stands(ring, ("racks", many), many <= fewest_racks(ring, ring.hosts))

    def test_on_many_points(self):
        full = Ring(MOST, 1, "hosts", 1, 1, "plain", (("a", "r", (0,)), ("b", "r", (MOST // 2,))))
        for most, told in ((MOST // 2 - 1, False), (MOST // 2, True)):
            self.assert_stands(full, ("share", "a", most), told)
            self.assert_stands(full, ("share", "b", most), told)
        for ring in small_rings()[::9]:
            for many in range(1, 6):
                self.assert_stands(widened(ring, WIDTH), ("racks", many), many <= fewest_racks(ring, ring.hosts))


class Refused(unittest.TestCase):
    def test_what_is_no_plan(self):
        for value in NO_NAMES + NAMES + (PLAIN_TEXT, plain_ring(), (plain_plan(),)):
            for wish in (("safe",), None, ("racks", 0)):
                assert_raises_with(self, NotAPlan, "given", value, holds, value, wish)
                assert_raises_with(self, NotAPlan, "given", value, holds, wish=wish, plan=value)

    def test_what_is_no_ring(self):
        for value in NO_NAMES + NAMES + (PLAIN_TEXT, plain_plan(), (plain_ring(),)):
            if not isinstance(value, Ring):
                for wish in (("racks", 1), None, ("racks", 0)):
                    assert_raises_with(self, NotARing, "given", value, stands, value, wish)
                    assert_raises_with(self, NotARing, "given", value, stands, wish=wish, ring=value)

    def test_what_is_no_wish_for_a_plan(self):
        for plan in (plain_plan(), plain_plan(*WHOLE)):
            for value in NO_PLAN_WISHES:
                assert_raises_with(self, InvalidWish, "given", value, holds, plan, value)
                assert_raises_with(self, InvalidWish, "given", value, holds, wish=value, plan=plan)

    def test_what_is_no_wish_for_a_ring(self):
        for ring in (plain_ring(), Ring.read(APART_TEXT)):
            for value in NO_RING_WISHES:
                assert_raises_with(self, InvalidWish, "given", value, stands, ring, value)
                assert_raises_with(self, InvalidWish, "given", value, stands, wish=value, ring=ring)

    def test_words_changed_by_a_sign(self):
        for right, call, given in [(wish, holds, plain_plan()) for wish in PLAN_WISHES] + [
                (wish, stands, plain_ring()) for wish in RING_WISHES + (("racks", 1),)]:
            call(given, right)
            word = right[0]
            for k in range(len(word) + 1):
                for bent in (word[:k] + word[k + 1:], word[:k] + " " + word[k:], word[:k] + "x" + word[k:],
                             word[:k] + "x" + word[k + 1:], word[:k].upper() + word[k:]):
                    if bent != word:
                        wish = (bent,) + right[1:]
                        assert_raises_with(self, InvalidWish, "given", wish, call, given, wish)

    def test_texts_of_rings_changed_by_a_sign(self):
        plan = plain_plan()
        for k in range(len(PLAIN_TEXT)):
            for sign in ("", " ", "\n", "0", "z"):
                text = PLAIN_TEXT[:k] + sign + PLAIN_TEXT[k + 1:]
                wish = ("like", text)
                try:
                    told = Ring.read(text).points == 12
                except ValueError:
                    told = False
                if told:
                    self.assertIs(holds(plan, wish), table(Ring.read(text)) == table(plan.ring))
                else:
                    assert_raises_with(self, InvalidWish, "given", wish, holds, plan, wish)


if __name__ == "__main__":
    unittest.main()
