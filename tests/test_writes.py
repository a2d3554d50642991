"""Promise 1 of stage 3: how many take a write and who can, and who has it later ([12], [13])."""

import unittest
from itertools import combinations

from ringshares.fates import holders, wanted
from ringshares.plans import Plan
from ringshares.rings import Ring
from tests.fate_models import (
    JOIN, SETTLE, WHOLE, lots_of_takers, of_many_points, plain_held, plain_plan, plain_scenes, plain_wanted, some_plans,
)
from tests.models import MOST
from tests.support import full_hosts, plain_ring

PLANS = some_plans()
WIDTH = 10 ** 16


def moments(plan):
    return range(len(plan) + 1)


class Wanted(unittest.TestCase):
    def test_the_examples_of_the_document(self):
        whole = plain_plan(*WHOLE)
        self.assertEqual(
            [wanted(whole, 10, 0), wanted(whole, 10, 1), wanted(whole, 10, 5), wanted(whole, 3, 1)],
            [(1, ("a", "b")), (2, ("a", "b", "d")), (1, ("a", "d")), (1, ("b", "c"))],
        )

    def test_each_key_at_each_moment(self):
        seen = set()
        for plan in PLANS[::2]:
            for key in range(plan.ring.points):
                for moment, scene in enumerate(plain_scenes(plan, key)):
                    many, names = plain_wanted(plan, scene)
                    told = (many, tuple(sorted(names)))
                    self.assertEqual(wanted(plan, key, moment), told)
                    self.assertEqual(wanted(moment=moment, point=key, plan=plan), told)
                    seen.add((plan.ring.pending, len(scene[1]), many - plan.ring.write, len(names) < many))
        self.assertEqual(seen, {
            (word, pendings, pendings if word == "with" else 0, few)
            for word in ("plain", "with") for pendings in (0, 1) for few in (False, True)
        })

    def test_pendings_count_up_or_down(self):
        steps = (JOIN, ("down", "d"), ("down", "a"), ("up", "d"), ("up", "a"), SETTLE)
        counted, plain = plain_plan(*steps), plain_plan(*steps, pending="plain")
        self.assertEqual(
            [wanted(counted, 10, moment) for moment in moments(counted)],
            [(1, ("a", "b")), (2, ("a", "b", "d")), (2, ("a", "b")), (2, ("b",)), (2, ("b", "d")),
             (2, ("a", "b", "d")), (1, ("a", "d"))],
        )
        self.assertEqual(
            [wanted(plain, 10, moment) for moment in moments(plain)],
            [(1, ("a", "b")), (1, ("a", "b")), (1, ("a", "b")), (1, ("b",)), (1, ("b",)), (1, ("a", "b")),
             (1, ("a", "d"))],
        )

    def test_more_than_there_are(self):
        one = Plan(Ring(9, 5, "racks", 4, 1, "with", (("a", "r", (3,)),)), (("join", "b", "r", (4,)), ("down", "a")))
        self.assertEqual([wanted(one, 8, moment) for moment in range(3)],
                         [(4, ("a",)), (5, ("a", "b")), (5, ("b",))])

    def test_the_most_points_and_steps(self):
        ring = Ring(MOST, 5, "hosts", 5, 5, "with", full_hosts())
        plan = Plan(ring, (("leave", "h0"),) + (("wipe", "h1"),) * 23)
        self.assertEqual(wanted(plan, MOST - 1, 0), (5, ("h0", "h1", "h2", "h3", "h4")))
        self.assertEqual(wanted(plan, MOST - 1, 24), (6, ("h0", "h1", "h2", "h3", "h4", "h5")))
        self.assertEqual(wanted(plan, 0, 24), (6, ("h0", "h1", "h2", "h3", "h4", "h5")))
        self.assertEqual(wanted(plan, 1, 24), (5, ("h1", "h2", "h3", "h4", "h5")))


class Holders(unittest.TestCase):
    def test_the_examples_of_the_document(self):
        whole, bare = plain_plan(*WHOLE), plain_plan(JOIN, SETTLE)
        self.assertEqual(
            [holders(whole, 10, 0, ("b",), 2), holders(whole, 10, 0, ("b",), 3), holders(whole, 10, 0, ("b",), 5),
             holders(bare, 10, 0, ("b",), 2)],
            [("b",), ("b", "d"), ("d",), ()],
        )
        hasty = plain_plan(*WHOLE, pending="plain")
        self.assertEqual([holders(hasty, 10, 4, ("b",), 5), wanted(hasty, 10, 4)], [(), (1, ("a", "b"))])

    def assert_followed(self, plan, key):
        """Holds who has each write of a key at each later moment against the plain model."""
        scenes = plain_scenes(plan, key)
        for moment, scene in enumerate(scenes):
            for takers in lots_of_takers(plan, scene):
                for further, held in enumerate(plain_held(plan, scenes, moment, takers)):
                    told = holders(plan, key, moment, takers, moment + further)
                    self.assertEqual(told, tuple(sorted(held)))
                again = holders(until=len(plan), names=takers, moment=moment, point=key, plan=plan)
                self.assertEqual(again, told)

    def test_each_write_at_each_later_moment(self):
        for at, plan in enumerate(PLANS[::6]):
            self.assert_followed(plan, at % plan.ring.points)

    def test_copies_go_from_keepers_to_pendings_alone(self):
        # At 10 the keepers are a and b, d is a pending; at 3 they are b and c, and d is none.
        plan = plain_plan(JOIN, ("copy", "d", "a"), ("copy", "b", "a"), ("copy", "a", "b"), ("copy", "d", "c"))
        self.assertEqual([holders(plan, 10, 0, ("a",), until) for until in range(6)],
                         [("a",), ("a",), ("a", "d"), ("a", "d"), ("a", "d"), ("a", "d")])
        self.assertEqual([holders(plan, 10, 0, ("b",), until) for until in range(6)], [("b",)] * 6)
        self.assertEqual([holders(plan, 3, 0, ("c",), until) for until in range(6)], [("c",)] * 6)
        self.assertEqual(holders(plan, 10, 2, ("a", "b"), 5), ("a", "b"))
        self.assertEqual(holders(plan, 10, 1, ("b", "d"), 5), ("b", "d"))

    def test_repairs_go_between_keepers_alone(self):
        plan = plain_plan(JOIN, ("repair", "b", "a"), ("repair", "c", "a"), ("repair", "a", "c"))
        self.assertEqual([holders(plan, 10, 0, ("a",), until) for until in range(5)],
                         [("a",), ("a",), ("a", "b"), ("a", "b"), ("a", "b")])
        self.assertEqual([holders(plan, 6, 0, ("c",), until) for until in range(5)],
                         [("c",), ("c",), ("c",), ("c",), ("a", "c")])

    def test_a_pending_gives_nothing_by_a_repair(self):
        steps = (("leave", "a"), ("repair", "c", "b"), ("repair", "b", "c"), ("copy", "c", "b"), SETTLE)
        plan = plain_plan(*steps, write=1, read=1)
        # At 10 the keepers are a and b, c is a pending: a repair neither from it nor to it.
        self.assertEqual([holders(plan, 10, 1, ("b", "c"), until) for until in (1, 3, 5)], [("b", "c")] * 3)
        self.assertEqual([holders(plan, 10, 1, ("a", "c"), until) for until in range(1, 6)],
                         [("a", "c")] * 4 + [("c",)])
        self.assertEqual([holders(plan, 10, 1, ("a", "b"), until) for until in range(1, 6)],
                         [("a", "b")] * 3 + [("a", "b", "c"), ("b", "c")])

    def test_wipes_falls_and_rises(self):
        plan = plain_plan(("down", "a"), ("wipe", "b"), ("up", "a"), ("repair", "b", "a"), ("wipe", "a"))
        self.assertEqual([holders(plan, 10, 0, ("a",), until) for until in range(6)],
                         [("a",), ("a",), ("a",), ("a",), ("a", "b"), ("b",)])
        self.assertEqual([holders(plan, 10, 0, ("b",), until) for until in range(6)], [("b",), ("b",)] + [()] * 4)

    def test_settling_forgets_what_is_no_longer_kept(self):
        steps = (JOIN, ("copy", "d", "b"), SETTLE, ("leave", "d"), ("copy", "b", "d"), SETTLE)
        plan = plain_plan(*steps)
        self.assertEqual([holders(plan, 10, 0, ("b",), until) for until in range(7)],
                         [("b",), ("b",), ("b", "d"), ("d",), ("d",), ("b", "d"), ("b",)])

    def test_a_name_that_joins_again_has_nothing(self):
        steps = (("leave", "b"), SETTLE, ("join", "b", "r9", (5,)), SETTLE)
        plan = plain_plan(*steps)
        self.assertEqual([holders(plan, 3, 0, ("b",), until) for until in range(5)], [("b",), ("b",), (), (), ()])

    def test_more_takers_never_have_less(self):
        for plan in PLANS[::5]:
            for key in range(0, plan.ring.points, 3):
                scenes = plain_scenes(plan, key)
                for write in range(1, plan.ring.factor):
                    few = Plan(plan.ring.ruled(write, 1, "plain"), plan.steps)
                    more = Plan(plan.ring.ruled(write + 1, 1, "plain"), plan.steps)
                    _, names = plain_wanted(more, scenes[0])
                    for takers in combinations(sorted(names), write + 1):
                        for lot in combinations(takers, write):
                            less = set(holders(few, key, 0, lot, len(plan)))
                            self.assertLessEqual(less, set(holders(more, key, 0, takers, len(plan))))

    def test_on_many_points(self):
        for plan in PLANS[::9]:
            large = of_many_points(plan, WIDTH)
            for key in range(0, plan.ring.points, 2):
                points = (key * WIDTH, key * WIDTH + WIDTH // 2, key * WIDTH + WIDTH - 1)
                for moment, scene in enumerate(plain_scenes(plan, key)):
                    for point in points:
                        self.assertEqual(wanted(large, point, moment), wanted(plan, key, moment))
                    for takers in lots_of_takers(plan, scene)[:2]:
                        told = holders(plan, key, moment, takers, len(plan))
                        self.assertEqual(holders(large, points[1], moment, takers, len(plan)), told)

    def test_at_the_moment_of_the_write(self):
        for plan in (plain_plan(), plain_plan(*WHOLE)):
            for moment in moments(plan):
                many, names = wanted(plan, 10, moment)
                for takers in combinations(names, many):
                    self.assertEqual(holders(plan, 10, moment, takers, moment), takers)
        self.assertEqual(str(plain_plan().ring), str(plain_ring()))


if __name__ == "__main__":
    unittest.main()
