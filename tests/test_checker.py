"""Promises 6 to 8 of stage 4: what the checker accepts, and whatever else it is given ([2], [5], [16], [18])."""

import unittest
from itertools import chain, combinations, permutations

from ringshares.cells import kept
from ringshares.checker import accepts
from ringshares.plans import Plan
from ringshares.rings import Ring
from tests.fate_models import (
    JOIN, SETTLE, WHOLE, all_halts, is_loss, of_many_points, plain_plan, plain_scenes, some_plans,
)
from tests.models import MOST, is_plan_text, plain_states, ring_pairs, ring_with, small_rings, table, widened
from tests.support import (
    APART_TEXT, NAMES, NO_NAMES, ODD_VALUES, PLAIN_TEXT, EqualToAll, bent_by_rows, bent_by_signs, bent_by_words,
    is_ring_text, plain_ring,
)
from tests.test_mends import is_plain_wish_held
from tests.test_wishes import NO_PLAN_WISHES

PLANS = some_plans()
BARE = plain_plan(JOIN, SETTLE)
BARE_TEXT = str(BARE)
LOSS = (10, 0, ("b",), 2, ("a", "d"))
HALTING = plain_plan(("down", "a"), ("wipe", "b"))
HALTING_TEXT = str(HALTING)
WIDTH = 10 ** 15
# Each of these is accepted.
PAPERS = (
    (("holds", BARE_TEXT, ("able",)), ()), (("holds", BARE_TEXT, ("racks", 1)), ()),
    (("holds", PLAIN_TEXT + "\nplan", ("like", PLAIN_TEXT)), ()), (("lost", BARE_TEXT), LOSS),
    (("halts", HALTING_TEXT), (10, 1, "read")), (("thin", BARE_TEXT, 2), (0, 0)), (("thin", BARE_TEXT, 5), (6, 1)),
    (("unlike", PLAIN_TEXT, APART_TEXT), 10), (("alien", PLAIN_TEXT, APART_TEXT), 12 - 2), (("keeps", PLAIN_TEXT, "a", 9), ()),
)
OTHER_VALUES = ODD_VALUES + (
    -1, 0, 1, 2, 5, 9, 10, 11, 12, 13, 10 ** 18, 10 ** 39, -10 ** 39, "a", "b", "d", "zz", "read", "write", "0", "10",
    ("a",), ("b",), ("a", "b"), ("b", "a"), ("a", "a"), ("d", "a"), ["a", "d"], ("a", None), (EqualToAll(), EqualToAll()),
    (0,), (0, 0), (10, 1, "write"), LOSS, ("safe",), ("racks", 1), PLAIN_TEXT, APART_TEXT, BARE_TEXT, plain_ring(), BARE,
    ((),), "x" * 8000, "\n" * 8000, "ring " + "1" * 4500, (((((((((),),),),),),),),),
)


def names_of(plan):
    return sorted({host[0] for moment in range(len(plan) + 1) for host in plan.counting(moment).hosts} | {"zz"})


def some_lots(names):
    """Returns tuples of up to two names, in both orders, and some longer ones."""
    short = chain((), [()], permutations(names, 1), permutations(names, 2), [(name, name) for name in names[:1]])
    return list(short) + list(combinations(names, 3))


class Holding(unittest.TestCase):
    def test_exactly_if_the_wish_holds(self):
        seen = set()
        for plan in PLANS[::5]:
            wishes = [("safe",), ("able",), ("calm",), ("like", str(plan.ring)), ("like", str(plan.counting(len(plan))))]
            for wish in wishes + [("racks", many) for many in range(1, 6)]:
                told = is_plain_wish_held(plan, wish)
                self.assertIs(accepts(("holds", str(plan), wish), ()), told)
                self.assertIs(accepts(certificate=(), claim=("holds", str(plan), wish)), told)
                seen.add((wish[0], told))
        self.assertEqual(len(seen), 10)

    def test_the_empty_certificate_alone(self):
        for claim in (("holds", BARE_TEXT, ("able",)), ("holds", BARE_TEXT, ("calm",)), ("keeps", PLAIN_TEXT, "a", 9)):
            self.assertIs(accepts(claim, ()), True)
            for value in OTHER_VALUES:
                if value != () or not isinstance(value, tuple):
                    self.assertIs(accepts(claim, value), False)

    def test_no_wish_that_is_none_and_no_text_that_is_none(self):
        for value in NO_PLAN_WISHES:
            self.assertIs(accepts(("holds", BARE_TEXT, value), ()), False)
        for value in OTHER_VALUES + (PLAIN_TEXT + "\n", BARE_TEXT + "\n", " " + BARE_TEXT, BARE_TEXT[:-1]):
            if value != BARE_TEXT or not isinstance(value, str):
                self.assertIs(accepts(("holds", value, ("able",)), ()), False)

    def test_on_many_points(self):
        for plan in PLANS[::11]:
            text = str(of_many_points(plan, WIDTH))
            for wish in (("safe",), ("able",), ("calm",), ("racks", 2)):
                self.assertIs(accepts(("holds", text, wish), ()), is_plain_wish_held(plan, wish))


class Losses(unittest.TestCase):
    def assert_all_cases(self, plan, keys):
        """Holds of all tuples of the right kinds whether they are accepted, against the plain model."""
        claim = ("lost", str(plan))
        lots = some_lots(names_of(plan))
        moments = range(-1, len(plan) + 2)
        found = 0
        for key in keys:
            for moment in moments:
                for takers in lots:
                    for until in moments:
                        for answerers in lots:
                            case = (key, moment, takers, until, answerers)
                            told = 0 <= key < plan.ring.points and is_loss_of(plan, case)
                            if accepts(claim, case) is not told:
                                self.fail((str(plan), case, told))
                            found += told
        return found

    def test_exactly_if_it_is_a_case(self):
        self.assertGreater(self.assert_all_cases(plain_plan(JOIN, SETTLE), (10,)), 0)
        self.assertGreater(self.assert_all_cases(plain_plan(("wipe", "a"), write=2, read=1), (6, 11)), 0)
        self.assertEqual(self.assert_all_cases(plain_plan(write=2, read=1), (-1, 7, 12)), 0)

    def test_cases_of_mixed_plans(self):
        found = 0
        for plan in PLANS[::11]:
            claim = ("lost", str(plan))
            for key in range(0, plan.ring.points, 4):
                scenes = plain_scenes(plan, key)
                for moment in range(len(plan) + 1):
                    for until in range(moment, len(plan) + 1, 2):
                        keepers = sorted(scenes[until][0])
                        case = (key, moment, tuple(sorted(scenes[moment][0]))[:plan.ring.write], until,
                                tuple(keepers[len(keepers) - plan.ring.read_number:]))
                        told = is_loss_of(plan, case)
                        self.assertIs(accepts(claim, case), told)
                        found += told
        self.assertGreater(found, 100)

    def test_on_the_most_points(self):
        large = of_many_points(BARE, MOST // 12)
        for key in (10 * (MOST // 12), 11 * (MOST // 12) + 5, 0, MOST // 12 - 1):
            self.assertIs(accepts(("lost", str(large)), (key,) + LOSS[1:]), True)
        for key in (-1, MOST // 12, MOST // 12 * 12, MOST // 12 * 10 - 1, MOST, 10 ** 30):
            self.assertIs(accepts(("lost", str(large)), (key,) + LOSS[1:]), False)


def is_loss_of(plan, case):
    """Tells whether it is a case of loss, also if its moments are none."""
    return 0 <= case[1] <= len(plan) and 0 <= case[3] <= len(plan) and is_loss(plan, case)


class Halts(unittest.TestCase):
    def test_exactly_if_it_is_a_case(self):
        seen = set()
        for plan in PLANS[::7]:
            halts = all_halts(plan)
            for key in range(-1, plan.ring.points + 1, 2):
                for moment in range(-1, len(plan) + 2):
                    for word in ("write", "read"):
                        case = (key, moment, word)
                        self.assertIs(accepts(("halts", str(plan)), case), case in halts)
                        seen.add((word, case in halts))
        self.assertEqual(len(seen), 4)

    def test_on_the_most_points(self):
        text = str(of_many_points(HALTING, MOST // 12))
        for key, told in ((10 * (MOST // 12), True), (6 * (MOST // 12) - 1, False), (-1, False), (MOST, False)):
            self.assertIs(accepts(("halts", text), (key, 1, "read")), told)
            self.assertIs(accepts(("halts", text), (key, 0, "read")), False)
            self.assertIs(accepts(("halts", text), (key, 2, "write")), False)


class Thin(unittest.TestCase):
    def test_exactly_if_it_shows_that(self):
        for plan in PLANS[::11]:
            text = str(plan)
            states = plain_states(plan.ring, plan.steps)
            for moment in range(-1, len(plan) + 2):
                for key in range(-1, plan.ring.points + 1, 3):
                    racks = 9
                    if 0 <= moment <= len(plan) and 0 <= key < plan.ring.points:
                        hosts = states[moment][0]
                        rack_of = {name: rack for name, rack, _ in hosts}
                        racks = len({rack_of[name] for name in table(ring_with(plan.ring, hosts))[key]})
                    for many in range(7):
                        told = racks < many and 1 <= many <= 5
                        self.assertIs(accepts(("thin", text, many), (key, moment)), told)

    def test_on_the_most_points(self):
        text = str(of_many_points(BARE, MOST // 12))
        for key, told in ((0, True), (MOST // 12 * 3, False), (-1, False), (MOST, False)):
            self.assertIs(accepts(("thin", text, 2), (key, 0)), told)


class TwoRings(unittest.TestCase):
    def test_exactly_if_the_key_shows_it(self):
        seen = set()
        for one, other in ring_pairs()[::3]:
            pairs = list(zip(table(one), table(other)))
            for key in range(-1, one.points + 1, 1 + one.points // 10):
                old, new = pairs[key] if 0 <= key < one.points else ((), ())
                for word, told in (("unlike", old != new), ("alien", set(old) != set(new))):
                    self.assertIs(accepts((word, str(one), str(other)), key), told)
                    seen.add((word, told))
        self.assertEqual(len(seen), 4)

    def test_other_points_show_nothing(self):
        for wider in (PLAIN_TEXT.replace("ring 12", "ring 13"), APART_TEXT.replace("ring 12", "ring 13")):
            for word in ("unlike", "alien"):
                for key in range(14):
                    self.assertIs(accepts((word, PLAIN_TEXT, wider), key), False)
                    self.assertIs(accepts((word, wider, PLAIN_TEXT), key), False)
                    self.assertIs(accepts((word, PLAIN_TEXT, PLAIN_TEXT), key), False)

    def test_on_the_most_points(self):
        width = MOST // 12
        one, other = widened(plain_ring(), width), widened(Ring.read(APART_TEXT), width)
        for key, told in ((10 * width, True), (3 * width, False), (3 * width - 1, True), (12 * width, False)):
            for word in ("unlike", "alien"):
                self.assertIs(accepts((word, str(one), str(other)), key), told)


class Keeping(unittest.TestCase):
    def test_exactly_so_many(self):
        for ring in small_rings()[::2]:
            text = str(ring)
            for name in ring.names:
                many = sum(name in keepers for keepers in table(ring))
                for more in (-1, 0, 1):
                    self.assertIs(accepts(("keeps", text, name, many + more), ()), more == 0)
            for name in NO_NAMES + ("zz", "r1"):
                self.assertIs(accepts(("keeps", text, name, 0), ()), False)

    def test_on_the_most_points(self):
        ring = widened(plain_ring(), MOST // 12)
        for name in ring.names:
            for more in (-1, 0, 1):
                self.assertIs(accepts(("keeps", str(ring), name, kept(ring, name) + more), ()), more == 0)
        one = Ring(MOST, 1, "hosts", 1, 1, "plain", (("a", "r", (0,)),))
        for many in (MOST, True, 1, MOST - 1, str(MOST)):
            self.assertIs(accepts(("keeps", str(one), "a", many), ()), many == MOST)
        least = Ring(1, 1, "hosts", 1, 1, "plain", (("a", "r", (0,)),))
        self.assertEqual([accepts(("keeps", str(least), "a", many), ()) for many in (1, True, "1")], [True, False, False])


class Whatever(unittest.TestCase):
    def test_papers_as_they_stand(self):
        for claim, certificate in PAPERS:
            self.assertIs(accepts(claim, certificate), True)
            self.assertIs(accepts(certificate=certificate, claim=claim), True)

    def test_each_element_of_another_kind(self):
        for claim, certificate in PAPERS:
            for value in ODD_VALUES:
                for k in range(len(claim)):
                    self.assertIs(accepts(claim[:k] + (value,) + claim[k + 1:], certificate), False, (claim, value))
                if not isinstance(certificate, tuple):
                    self.assertIs(accepts(claim, value), False)
                for k in range(len(certificate) if isinstance(certificate, tuple) else 0):
                    self.assertIs(accepts(claim, certificate[:k] + (value,) + certificate[k + 1:]), False, (claim, value))

    def test_too_many_and_too_few_elements(self):
        for claim, certificate in PAPERS:
            rows = [claim[:-1], claim[1:], claim + (), claim + ((),), claim + ("a",), (claim,), list(claim), claim[::-1]]
            for row in rows:
                self.assertIs(accepts(row, certificate), row == claim)
            if isinstance(certificate, tuple):
                for row in (certificate[:-1], certificate[1:], certificate + (0,), (certificate,), list(certificate)):
                    self.assertIs(accepts(claim, row), row == () == certificate)

    def test_other_words(self):
        for claim, certificate in PAPERS:
            word = claim[0]
            bent = bent_by_signs(word, "x s") + [word.upper(), word.title(), word.encode(), "", "safe", "like"]
            for other in bent + ["holds", "lost", "halts", "thin", "unlike", "alien", "keeps"]:
                told = other == word or {other, word} == {"unlike", "alien"}
                self.assertIs(accepts((other,) + claim[1:], certificate), told)

    def test_everything_beside_everything(self):
        for claim in OTHER_VALUES:
            for certificate in OTHER_VALUES:
                self.assertIs(accepts(claim, certificate), False)
        for word in ("holds", "lost", "halts", "thin", "unlike", "alien", "keeps"):
            for one in OTHER_VALUES[::2]:
                for certificate in OTHER_VALUES[::3]:
                    for claim in ((word, one, one), (word, one, one, one), (word, one, BARE_TEXT), (word,)):
                        self.assertIs(accepts(claim, certificate), False)


class BentTexts(unittest.TestCase):
    def bent(self, text):
        signs = "\n 019adhjz"
        words = ("a", "zz", "1", "10", "settle", "plan", "hosts", "racks", "")
        return bent_by_signs(text, signs) + bent_by_words(text, words) + bent_by_rows(text, ("plan", "settle", "wipe a", ""))

    def test_of_plans(self):
        found = set()
        for text in self.bent(BARE_TEXT):
            told = is_plan_text(text)
            plan = Plan.read(text) if told else None
            lost = told and plan.ring.points < 200 and LOSS[0] < plan.ring.points and is_loss_of(plan, LOSS)
            if not told or plan.ring.points < 200:
                self.assertIs(accepts(("lost", text), LOSS), lost, text)
            self.assertIs(accepts(("holds", text, ("racks", 1)), ()), told, text)
            found.add((told, lost))
        self.assertEqual(found, {(True, True), (True, False), (False, False)})

    def test_of_rings(self):
        found = set()
        for text in self.bent(PLAIN_TEXT):
            told = is_ring_text(text)
            ring = Ring.read(text) if told else None
            for word, held in (("keeps", told and "a" in ring and kept(ring, "a") == 9),):
                self.assertIs(accepts((word, text, "a", 9), ()), held)
                found.add(held)
            unlike = told and ring.points == 12 and ring.keepers(10) != plain_ring().keepers(10)
            self.assertIs(accepts(("unlike", PLAIN_TEXT, text), 10), unlike)
            self.assertIs(accepts(("unlike", text, PLAIN_TEXT), 10), unlike)
        self.assertEqual(found, {True, False})

    def test_names_of_all_kinds(self):
        for name in NAMES:
            if name not in ("b", "c"):
                text = PLAIN_TEXT.replace("host a ", f"host {name} ")
                self.assertIs(accepts(("keeps", text, name, 9), ()), True)
                self.assertIs(accepts(("lost", text + "\nplan\njoin d r2 0\nsettle"), (10, 0, ("b",), 2, tuple(sorted((name, "d"))))),
                              True)
        self.assertIs(accepts(("holds", str(plain_plan(*WHOLE)), ("safe",)), ()), True)


if __name__ == "__main__":
    unittest.main()
