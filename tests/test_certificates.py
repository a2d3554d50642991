"""Promises 9 and 10 of stage 4: answers with papers that the checker accepts ([2], [16], [18], interface), and wrong calls."""

import unittest

from ringshares import errors
from ringshares.certificates import certify, certify_rings, certify_share
from ringshares.checker import accepts
from ringshares.errors import InvalidWish, NotAPlan, NotARing, OtherPoints, UnknownName
from ringshares.likeness import alike
from ringshares.mends import holds
from ringshares.plans import Plan
from ringshares.rings import Ring
from tests.fate_models import (
    JOIN, SETTLE, WHOLE, of_many_points, plain_plan, some_plans, turned, turned_hosts,
)
from tests.models import MOST, ring_pairs, ring_with, small_rings, table, widened
from tests.support import (
    APART_TEXT, NAMES, NO_NAMES, PLAIN_TEXT, Numbers, assert_raises_with, plain_ring,
)
from tests.test_wishes import NO_PLAN_WISHES

PLANS = some_plans()
WIDTH = 10 ** 15
ALL_WISHES = (("safe",), ("able",), ("calm",)) + tuple(("racks", many) for many in range(1, 6))
WORDS = {"safe": "lost", "able": "halts", "racks": "thin", "like": "unlike"}
NO_RINGS = tuple(value for value in NO_NAMES + NAMES if not isinstance(value, Ring)) + (
    PLAIN_TEXT, plain_ring().hosts, (plain_ring(),), plain_plan(),
)


def claim_against(plan, wish):
    """Returns the claim that a wish does not hold, as the interface tells it."""
    match wish:
        case ("racks", many):
            return ("thin", str(plan), many)
        case ("like", text):
            return ("unlike", str(plan.counting(len(plan))), text)
    return (WORDS[wish[0]], str(plan))


def wishes_for(plan):
    """Returns wishes of all forms for a plan."""
    texts = [str(plan.counting(moment)) for moment in range(0, len(plan) + 1, 3)]
    return ALL_WISHES + tuple(("like", text) for text in [str(plan.counting(len(plan)))] + texts)


class OfWishes(unittest.TestCase):
    def assert_certified(self, plan, wish):
        """Holds that the claim is the one that the interface tells, and that the checker accepts the paper."""
        told = certify(plan, wish)
        if holds(plan, wish):
            self.assertEqual(told, (("holds", str(plan), wish), ()))
        elif wish == ("calm",):
            self.assertIsNone(told)
            return told
        else:
            self.assertEqual((len(told), told[0]), (2, claim_against(plan, wish)))
        self.assertIs(accepts(*told), True)
        return told

    def test_the_examples_of_the_document(self):
        bare, whole = plain_plan(JOIN, SETTLE), plain_plan(*WHOLE)
        claim, certificate = certify(bare, ("safe",))
        self.assertEqual(
            [claim == ("lost", str(bare)), accepts(claim, certificate), accepts(claim, (10, 0, ("b",), 2, ("a", "d"))),
             accepts(claim, (3, 0, ("b",), 2, ("b", "c")))],
            [True, True, True, False],
        )
        plain = plain_ring()
        self.assertEqual(
            [certify(whole, ("safe",)) == (("holds", str(whole), ("safe",)), ()), certify_rings(plain, plain),
             certify_share(plain, "a")[0][2:], accepts(("keeps", str(plain), "b", 9), ())],
            [True, None, ("a", 9), False],
        )

    def test_each_wish(self):
        seen = set()
        for plan in PLANS[::2]:
            for wish in wishes_for(plan):
                told = self.assert_certified(plan, wish)
                seen.add((wish[0], told and told[0][0]))
        self.assertEqual(seen, {(word, "holds") for word in WORDS} | set(WORDS.items()) | {("calm", "holds"), ("calm", None)})

    def test_by_name_and_the_same_each_time(self):
        for plan in PLANS[::20]:
            for wish in wishes_for(plan):
                told = certify(plan, wish)
                self.assertEqual([certify(wish=wish, plan=plan), certify(Plan.read(str(plan)), wish)], [told, told])

    def test_on_many_points(self):
        for plan in PLANS[1::12]:
            large = of_many_points(plan, WIDTH)
            for wish in ALL_WISHES + (("like", str(large.ring)), ("like", str(large.counting(len(large))))):
                self.assert_certified(large, wish)

    def turned_case(self, word, case, turn, other_name, points):
        """Returns a certificate as it is for the plan moved round and renamed."""
        if word == "unlike":
            return (case + turn) % points
        case = tuple(tuple(sorted(other_name[name] for name in part)) if isinstance(part, tuple) else part for part in case)
        return case if word == "holds" else ((case[0] + turn) % points,) + case[1:]

    def test_moved_round_renamed_and_in_another_order(self):
        numbers = Numbers(9)
        seen = set()
        for plan in PLANS[::3]:
            turn, other_name, other = turned(plan, numbers)
            for wish in ALL_WISHES:
                told = certify(plan, wish)
                again = self.assert_certified(other, wish)
                self.assertEqual(told and told[0][0], again and again[0][0])
                if told is not None:
                    claim, case = told
                    seen.add(claim[0])
                    moved = self.turned_case(claim[0], case, turn, other_name, plan.ring.points)
                    self.assertIs(accepts((claim[0], str(other)) + claim[2:], moved), True)
        self.assertEqual(seen, {"holds", "lost", "halts", "thin"})

    def test_papers_of_others_are_accepted_as_well(self):
        bare = plain_plan(JOIN, SETTLE)
        claim, case = certify(bare, ("safe",))
        for key in (10, 11, 0):
            for moment in (0, 1):
                takers = ("b",) if moment == 0 else ("a", "b")
                told = accepts(claim, (key, moment, takers, 2, ("a", "d")))
                self.assertIs(told, moment == 0)
        self.assertIs(accepts(claim, case), True)


class OfRings(unittest.TestCase):
    def test_each_pair(self):
        seen = set()
        for one, other in ring_pairs()[::2]:
            told = certify_rings(one, other)
            seen.add(told is None)
            self.assertEqual(certify_rings(other=other, one=one), told)
            self.assertEqual(told is None, table(one) == table(other))
            if told is not None:
                self.assertEqual((len(told), told[0]), (2, ("unlike", str(one), str(other))))
                self.assertNotEqual(one.keepers(told[1]), other.keepers(told[1]))
                self.assertIs(accepts(*told), True)
        self.assertEqual(seen, {True, False})

    def test_moved_round_renamed_and_in_another_order(self):
        numbers = Numbers(19)
        for one, other in ring_pairs()[::5]:
            told = certify_rings(one, other)
            turn = numbers.below(one.points)
            other_name = {name: f"m{99 - k}" for k, name in enumerate(sorted(set(one.names + other.names)))}
            pair = [ring_with(ring, turned_hosts(numbers.chosen(ring.hosts, len(ring)), turn, ring.points, other_name))
                    for ring in (one, other)]
            again = certify_rings(*pair)
            self.assertEqual(told is None, again is None)
            if told is not None:
                self.assertIs(accepts(*again), True)
                claim = ("unlike", str(pair[0]), str(pair[1]))
                self.assertIs(accepts(claim, (told[1] + turn) % one.points), True)

    def test_shares(self):
        for ring in small_rings()[::2] + [widened(plain_ring(), MOST // 12)]:
            for name in ring.names:
                claim, certificate = certify_share(ring, name)
                self.assertEqual((claim[:3], certificate), (("keeps", str(ring), name), ()))
                self.assertEqual(certify_share(name=name, ring=ring), (claim, certificate))
                self.assertIs(accepts(claim, certificate), True)
                if ring.points < 1000:
                    self.assertEqual(claim[3], sum(name in keepers for keepers in table(ring)))
        self.assertEqual(certify_share(plain_ring(), "b"), (("keeps", PLAIN_TEXT, "b", 8), ()))

    def test_on_the_most_points(self):
        one, other = [widened(ring, MOST // 12) for ring in (plain_ring(), Ring.read(APART_TEXT))]
        told = certify_rings(one, other)
        self.assertEqual((told[0], accepts(*told)), (("unlike", str(one), str(other)), True))
        self.assertTrue(alike(one, one.ruled(2, 2, "plain")))
        self.assertIsNone(certify_rings(one, one.ruled(2, 2, "plain")))


class Refused(unittest.TestCase):
    def test_what_is_no_plan(self):
        for value in NO_NAMES + NAMES + (PLAIN_TEXT, plain_ring(), (plain_plan(),)):
            for wish in (("safe",), None, ("racks", 0)):
                assert_raises_with(self, NotAPlan, "given", value, certify, value, wish)
                assert_raises_with(self, NotAPlan, "given", value, certify, wish=wish, plan=value)

    def test_what_is_no_wish_for_it(self):
        for plan in (plain_plan(), plain_plan(JOIN, SETTLE)):
            for value in NO_PLAN_WISHES:
                assert_raises_with(self, InvalidWish, "given", value, certify, plan, value)
                assert_raises_with(self, InvalidWish, "given", value, certify, wish=value, plan=plan)

    def test_what_is_no_ring_first_then_second_then_other_points(self):
        wider = Ring(13, 2, "hosts", 1, 2, "with", plain_ring().hosts)
        for value in NO_RINGS:
            for other in (plain_ring(), wider, None):
                assert_raises_with(self, NotARing, "given", value, certify_rings, value, other)
                assert_raises_with(self, NotARing, "given", value, certify_rings, other=other, one=value)
            assert_raises_with(self, NotARing, "given", value, certify_rings, wider, value)
            assert_raises_with(self, NotARing, "given", value, certify_rings, other=value, one=wider)
        assert_raises_with(self, OtherPoints, "given", wider, certify_rings, plain_ring(), wider)
        assert_raises_with(self, OtherPoints, "given", wider, certify_rings, other=wider, one=plain_ring())

    def test_what_is_no_ring_then_no_name_of_a_host(self):
        for value in NO_RINGS:
            for name in ("a", "zz", None):
                assert_raises_with(self, NotARing, "given", value, certify_share, value, name)
                assert_raises_with(self, NotARing, "given", value, certify_share, name=name, ring=value)
        for value in NO_NAMES + ("d", "zz", "r1", ("a",)):
            assert_raises_with(self, UnknownName, "given", value, certify_share, plain_ring(), value)
            assert_raises_with(self, UnknownName, "given", value, certify_share, name=value, ring=plain_ring())

    def test_each_of_its_own_base(self):
        for error, base in ((NotAPlan, errors.BadValue), (InvalidWish, errors.BadValue), (NotARing, errors.BadValue),
                            (OtherPoints, errors.BadValue), (UnknownName, errors.BadName)):
            bases = [other for other in (errors.BadValue, errors.BadName, errors.NoAnswer) if issubclass(error, other)]
            self.assertEqual(bases, [base])


if __name__ == "__main__":
    unittest.main()
