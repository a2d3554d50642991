"""Promises 6 and 7 of stage 2: the arcs that part two rings, and what moves ([2], [8], [9], [15])."""

import unittest

from ringshares.likeness import alien_arcs, alike, kin, moved, moves, unlike_arcs
from ringshares.rings import Ring
from tests.models import (
    MOST, keys_of, pairs_with_one_host_more, plain_arcs, ring_pairs, small_rings, table, widened,
)
from tests.support import APART_TEXT, Numbers, full_hosts, plain_ring

WIDTH = 10 ** 16


def unlike_keys(one, other):
    return [old != new for old, new in zip(table(one), table(other))]


def alien_keys(one, other):
    return [set(old) != set(new) for old, new in zip(table(one), table(other))]


def plain_moves(one, other):
    """Returns what each name gains and loses, counted key by key."""
    both = list(zip(table(one), table(other)))
    return tuple(
        (name, sum(name in new and name not in old for old, new in both),
         sum(name in old and name not in new for old, new in both))
        for name in sorted(set(one.names) | set(other.names))
    )


class Examples(unittest.TestCase):
    def test_the_examples_of_the_document(self):
        plain, apart = plain_ring(), Ring.read(APART_TEXT)
        more = plain.joined("d", "r2", (0,))
        self.assertEqual(unlike_arcs(plain, more), ((6, 7),))
        self.assertEqual(moves(plain, more), (("a", 0, 4), ("b", 0, 3), ("c", 0, 0), ("d", 7, 0)))
        self.assertEqual([moved(plain, more), unlike_arcs(plain, apart), alien_arcs(plain, plain)], [7, ((10, 5),), ()])
        wide = Ring(12, 3, "hosts", 2, 2, "with", plain.hosts)
        turned = Ring(12, 3, "hosts", 2, 2, "with", (("a", "r1", (2,)), ("b", "r1", (1,)), ("c", "r2", (9,))))
        self.assertEqual(
            [alike(plain, plain.ruled(2, 2, "plain")), alike(more.left("d"), plain), kin(wide, turned),
             unlike_arcs(wide, turned), alien_arcs(wide, turned)],
            [True, True, True, ((0, 12),), ()],
        )


class Arcs(unittest.TestCase):
    def test_just_the_keys_that_trying_all_shows(self):
        found = {"unlike": set(), "alien": set()}
        for one, other in ring_pairs():
            unlike, alien = plain_arcs(unlike_keys(one, other)), plain_arcs(alien_keys(one, other))
            self.assertEqual([unlike_arcs(one, other), unlike_arcs(other=other, one=one)], [unlike, unlike])
            self.assertEqual([alien_arcs(one, other), alien_arcs(other=other, one=one)], [alien, alien])
            self.assertEqual([unlike_arcs(other, one), alien_arcs(other, one)], [unlike, alien])
            found["unlike"].add(len(unlike))
            found["alien"].add(len(alien))
        for lengths in found.values():
            self.assertTrue({0, 1, 2, 3, 4} <= lengths)

    def test_alike_and_kin(self):
        told = set()
        for one, other in ring_pairs():
            same, similar = not any(unlike_keys(one, other)), not any(alien_keys(one, other))
            self.assertIs(alike(one, other), same)
            self.assertIs(kin(one, other), similar)
            self.assertIs(alike(other=other, one=one), same)
            self.assertIs(kin(other=other, one=one), similar)
            told.add((same, similar))
        self.assertEqual(told, {(True, True), (False, True), (False, False)})

    def test_rings_of_many_points(self):
        for one, other in ring_pairs():
            big, large = widened(one, WIDTH), widened(other, WIDTH)
            for call in (unlike_arcs, alien_arcs):
                told = tuple((first * WIDTH, many * WIDTH) for first, many in call(one, other))
                self.assertEqual(call(big, large), told)
            self.assertEqual([alike(big, large), kin(big, large)], [alike(one, other), kin(one, other)])

    def test_round_the_end_of_the_ring(self):
        for points in (9, MOST):
            one = Ring(points, 1, "hosts", 1, 1, "plain", (("a", "r", (2,)), ("b", "r", (points - 3,))))
            other = one.joined("c", "r", (1,))
            # The keys from behind b up to the point 1, across the end.
            self.assertEqual(unlike_arcs(one, other), ((points - 2, 4),))
            self.assertEqual(alien_arcs(other, one), ((points - 2, 4),))
            last = one.joined("c", "r", (points - 1,))
            self.assertEqual(unlike_arcs(one, last), ((points - 2, 2),))
            first = one.joined("c", "r", (0, points - 1))
            self.assertEqual(unlike_arcs(last, first), ((0, 1),))

    def test_all_keys_are_the_one_arc_from_0_on(self):
        for points in (1, 2, 7, MOST):
            for mark in {0, points // 2, points - 1}:
                one = Ring(points, 1, "hosts", 1, 1, "plain", (("a", "r", (mark,)),))
                other = Ring(points, 1, "hosts", 1, 1, "plain", (("b", "r", (points // 2,)),))
                self.assertEqual([unlike_arcs(one, other), alien_arcs(one, other)], [((0, points),)] * 2)
        one = Ring(6, 2, "hosts", 1, 1, "plain", (("a", "r", (1, 3)), ("b", "r", (2, 5))))
        other = Ring(6, 2, "hosts", 1, 1, "plain", (("b", "r", (1, 3)), ("a", "r", (2, 5))))
        self.assertEqual([unlike_arcs(one, other), alien_arcs(one, other)], [((0, 6),), ()])

    def test_all_keys_but_one(self):
        for points in (8, MOST):
            for key in (0, 1, points - 1):
                one = Ring(points, 1, "hosts", 1, 1, "plain", (("a", "r", (key,)), ("b", "r", ((key - 1) % points,))))
                other = Ring(points, 1, "hosts", 1, 1, "plain", (("a", "r", (key,)),))
                self.assertEqual(unlike_arcs(one, other), (((key + 1) % points, points - 1),))
                third = Ring(points, 1, "hosts", 1, 1, "plain", (("b", "r", (key,)),))
                self.assertEqual(unlike_arcs(one, third), ((key, 1),))

    def test_cells_side_by_side_make_one_arc(self):
        one = Ring(100, 1, "hosts", 1, 1, "plain", (("a", "r", tuple(range(10, 26))), ("b", "r", (99,))))
        other = Ring(100, 1, "hosts", 1, 1, "plain", (("c", "r", (3, 7) + tuple(range(11, 25))), ("b", "r", (99,))))
        self.assertEqual(unlike_arcs(one, other), ((0, 26),))
        self.assertEqual(alien_arcs(one, other), ((0, 26),))

    def test_rings_that_differ_in_writes_reads_and_pending_alone(self):
        for small in small_rings():
            for ring in (small, widened(small, WIDTH)):
                other = ring.ruled(ring.factor, (ring.factor + 1) // 2, "with")
                self.assertEqual([unlike_arcs(ring, other), alien_arcs(ring, other)], [(), ()])
                self.assertIs(alike(ring, other), True)
                self.assertIs(kin(ring, other), True)
                self.assertEqual([moved(ring, other), moves(ring, other)], [0, tuple((n, 0, 0) for n in ring.names)])

    def test_tuples_of_pairs(self):
        for call in (unlike_arcs, alien_arcs):
            told = call(plain_ring(), plain_ring().left("a"))
            self.assertIs(type(told), tuple)
            self.assertEqual([[type(part) for part in arc] for arc in told], [[int, int]] * len(told))
            self.assertEqual([type(arc) for arc in told], [tuple] * len(told))


class Moves(unittest.TestCase):
    def test_counted_key_by_key(self):
        for one, other in ring_pairs():
            told = plain_moves(one, other)
            self.assertEqual([moves(one, other), moves(other=other, one=one)], [told, told])
            many = sum(gained for _, gained, _ in told)
            self.assertEqual([moved(one, other), moved(other=other, one=one)], [many, many])

    def test_the_other_way_round_gains_are_losses(self):
        for one, other in ring_pairs():
            turned = tuple((name, lost, gained) for name, gained, lost in moves(one, other))
            self.assertEqual(moves(other, one), turned)
            self.assertEqual(moved(other, one), sum(lost for _, _, lost in moves(one, other)))

    def test_on_rings_of_many_points(self):
        for one, other in ring_pairs():
            told = tuple((name, gained * WIDTH, lost * WIDTH) for name, gained, lost in plain_moves(one, other))
            big, large = widened(one, WIDTH), widened(other, WIDTH)
            self.assertEqual(moves(big, large), told)
            self.assertEqual(moved(big, large), sum(gained for _, gained, _ in told))

    def test_exact_on_the_most_points(self):
        one = Ring(MOST, 1, "hosts", 1, 1, "plain", (("a", "r", (0,)), ("b", "r", (1,))))
        other = Ring(MOST, 1, "hosts", 1, 1, "plain", (("c", "r", (0,)), ("b", "r", (2,))))
        self.assertEqual(moves(one, other), (("a", 0, MOST - 1), ("b", 1, 0), ("c", MOST - 2, 0)))
        self.assertEqual([moved(one, other), moved(other, one)], [MOST - 1, MOST - 1])

    def test_a_join_takes_keys_for_the_one_that_joins_alone(self):
        numbers = Numbers(77)
        tried = 0
        for ring in small_rings() * 2:
            for one, other in pairs_with_one_host_more(ring, numbers):
                if len(one) < len(other):
                    self.assert_only_gains(one, other, "new")
                    self.assert_only_loses(other, one, "new")
                    tried += 1
                else:
                    name, = set(one.names) - set(other.names)
                    self.assert_only_loses(one, other, name)
                    self.assert_only_gains(other, one, name)
        self.assertGreater(tried, 100)

    def assert_only_gains(self, one, other, name):
        self.assertEqual({host for host, gained, _ in moves(one, other) if gained} - {name}, set())
        for old, new in zip(table(one), table(other)):
            self.assertLessEqual(len(set(old) - set(new)), 1)

    def assert_only_loses(self, one, other, name):
        self.assertEqual({host for host, _, lost in moves(one, other) if lost} - {name}, set())

    def test_told_arcs_are_the_keys_that_move(self):
        for ring in small_rings():
            for one, other in pairs_with_one_host_more(ring, Numbers(3)):
                keys = sum(len(keys_of(arc, one.points)) for arc in alien_arcs(one, other))
                self.assertGreaterEqual(keys, moved(one, other))

    def test_names_of_both_rings_ascending(self):
        one = Ring(111, 3, "hosts", 1, 1, "plain", full_hosts())
        other = Ring(111, 3, "hosts", 1, 1, "plain", (("zz", "r", (5,)), ("h3", "r", (7,)), ("b", "r", (9,))))
        told = moves(one, other)
        self.assertIs(type(told), tuple)
        self.assertEqual([name for name, _, _ in told],
                         ["b", "h0", "h1", "h10", "h11", "h2", "h3", "h4", "h5", "h6", "h7", "h8", "h9", "zz"])
        self.assertEqual([type(part) for row in told for part in row], [str, int, int] * 14)


if __name__ == "__main__":
    unittest.main()
