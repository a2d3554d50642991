"""Promises 1 and 2 of stage 2: the cells of a ring, and of two rings together ([7], [8])."""

import unittest

from ringshares.cells import cells, common_cells
from ringshares.rings import Ring
from tests.models import MOST, keys_of, marks_of, ring_pairs, small_rings, table, widened
from tests.support import APART_TEXT, PLAIN_HOSTS, full_hosts, mixed_rings, plain_ring


class Cells(unittest.TestCase):
    def test_the_example_of_the_document(self):
        told = ((10, 5, ("a", "b")), (3, 3, ("b", "c")), (6, 4, ("c", "a")))
        self.assertEqual(cells(plain_ring()), told)
        self.assertEqual(cells(ring=plain_ring()), told)

    def test_one_mark_alone_has_all_points_from_behind_it(self):
        for points in (1, 2, 3, 12, MOST):
            for mark in {0, points // 2, points - 1}:
                for spread in ("hosts", "racks"):
                    ring = Ring(points, 3, spread, 1, 1, "plain", (("a", "r", (mark,)),))
                    first = 0 if mark == points - 1 else mark + 1
                    self.assertEqual(cells(ring), ((first, points, ("a",)),))

    def test_marks_at_both_ends_and_side_by_side(self):
        for points in (4, 10, MOST):
            ends = Ring(points, 1, "hosts", 1, 1, "plain", (("a", "r", (points - 1,)), ("b", "r", (0,))))
            self.assertEqual(cells(ends), ((0, 1, ("b",)), (1, points - 1, ("a",))))
            beside = Ring(points, 2, "hosts", 1, 1, "plain", (("a", "r", (1, 3)), ("b", "r", (2,))))
            first = 4 % points
            self.assertEqual(cells(beside), (
                (first, points - 2, ("a", "b")), (2, 1, ("b", "a")), (3, 1, ("a", "b")),
            ))

    def test_all_points_are_marks(self):
        hosts = (("a", "r", (0, 3)), ("b", "r", (1,)), ("c", "s", (2, 4)))
        ring = Ring(5, 2, "racks", 1, 1, "plain", hosts)
        self.assertEqual(cells(ring), (
            (0, 1, ("a", "c")), (1, 1, ("b", "c")), (2, 1, ("c", "a")), (3, 1, ("a", "c")), (4, 1, ("c", "a")),
        ))

    def test_each_key_is_in_one_cell_with_its_keepers(self):
        for ring in small_rings() + mixed_rings()[-1:]:
            rows = cells(ring)
            keys = [key for first, many, _ in rows for key in keys_of((first, many), ring.points)]
            self.assertEqual(sorted(keys), list(range(ring.points)))
            self.assertEqual([(first + many - 1) % ring.points for first, many, _ in rows], marks_of(ring))
            for first, many, keepers in rows:
                for key in keys_of((first, many), ring.points):
                    self.assertEqual(keepers, table(ring)[key])

    def test_rings_of_many_points(self):
        for ring in small_rings():
            for width in (10 ** 5, 10 ** 16):
                told = tuple((first * width, many * width, keepers) for first, many, keepers in cells(ring))
                self.assertEqual(cells(widened(ring, width)), told)

    def test_the_most_marks_on_the_most_points(self):
        hosts = tuple((f"h{k}", f"r{k % 3}", tuple(MOST // 16 * n + k for n in range(16))) for k in range(12))
        ring = Ring(MOST, 5, "racks", 5, 5, "with", hosts)
        rows = cells(ring)
        self.assertEqual(len(rows), 192)
        self.assertEqual(sum(many for _, many, _ in rows), MOST)
        self.assertEqual([first + many - 1 for first, many, _ in rows[1:]], marks_of(ring)[1:])
        for first, many, keepers in rows:
            self.assertEqual([ring.keepers(first), ring.keepers((first + many - 1) % MOST)], [keepers, keepers])

    def test_tuples_of_triples(self):
        for ring in (plain_ring(), Ring.read(APART_TEXT)):
            self.assertIs(type(cells(ring)), tuple)
            for row in cells(ring):
                self.assertEqual([type(part) for part in row], [int, int, tuple])
                self.assertIs(type(row), tuple)


class CommonCells(unittest.TestCase):
    def test_marks_of_one_ring_or_the_other(self):
        one = plain_ring()
        other = one.left("b").joined("d", "r2", (0, 4))
        self.assertEqual(common_cells(one, other), (
            (10, 3, ("a", "b"), ("d", "a")), (1, 2, ("a", "b"), ("a", "d")), (3, 2, ("b", "c"), ("d", "c")),
            (5, 1, ("b", "c"), ("c", "d")), (6, 4, ("c", "a"), ("c", "d")),
        ))

    def test_one_mark_each(self):
        one = Ring(9, 2, "hosts", 1, 1, "plain", (("a", "r", (3,)),))
        other = Ring(9, 1, "racks", 1, 1, "with", (("b", "r", (8,)),))
        self.assertEqual(common_cells(one, other), ((0, 4, ("a",), ("b",)), (4, 5, ("a",), ("b",))))
        same = Ring(9, 1, "racks", 1, 1, "with", (("b", "r", (3,)),))
        self.assertEqual(common_cells(one=one, other=same), ((4, 9, ("a",), ("b",)),))

    def test_each_key_is_in_one_cell_with_its_keepers_by_both(self):
        for one, other in ring_pairs():
            rows = common_cells(one, other)
            marks = sorted(set(marks_of(one) + marks_of(other)))
            self.assertEqual([(first + many - 1) % one.points for first, many, _, _ in rows], marks)
            keys = []
            for first, many, old, new in rows:
                for key in keys_of((first, many), one.points):
                    self.assertEqual((old, new), (table(one)[key], table(other)[key]))
                    keys.append(key)
            self.assertEqual(sorted(keys), list(range(one.points)))

    def test_both_rings_exchanged(self):
        for one, other in ring_pairs():
            turned = tuple((first, many, new, old) for first, many, old, new in common_cells(one, other))
            self.assertEqual(common_cells(other, one), turned)
            self.assertEqual(common_cells(other=one, one=other), turned)

    def test_a_ring_beside_itself(self):
        for ring in small_rings():
            told = tuple((first, many, keepers, keepers) for first, many, keepers in cells(ring))
            self.assertEqual(common_cells(ring, ring), told)
            self.assertEqual(common_cells(ring, ring.ruled(ring.factor, 1, "with")), told)

    def test_rings_of_many_points(self):
        for one, other in ring_pairs():
            width = 10 ** 16
            told = tuple((first * width, many * width, old, new) for first, many, old, new in common_cells(one, other))
            self.assertEqual(common_cells(widened(one, width), widened(other, width)), told)

    def test_neighbours_on_the_most_points(self):
        one = Ring(MOST, 1, "hosts", 1, 1, "plain", (("a", "r", (0,)), ("b", "r", (MOST - 1,))))
        other = Ring(MOST, 1, "hosts", 1, 1, "plain", (("a", "r", (1,)), ("b", "r", (MOST - 2,))))
        self.assertEqual(common_cells(one, other), (
            (0, 1, ("a",), ("a",)), (1, 1, ("b",), ("a",)), (2, MOST - 3, ("b",), ("b",)),
            (MOST - 1, 1, ("b",), ("a",)),
        ))

    def test_tuples_of_quadruples(self):
        rows = common_cells(plain_ring(), Ring(12, 2, "hosts", 1, 1, "plain", PLAIN_HOSTS[:2]))
        self.assertIs(type(rows), tuple)
        for row in rows:
            self.assertEqual([type(part) for part in row], [int, int, tuple, tuple])

    def test_nothing_that_is_passed_is_changed(self):
        one, other = Ring(111, 3, "racks", 1, 1, "plain", full_hosts()), Ring.read(APART_TEXT)
        texts = str(one), str(other)
        cells(one), cells(other), common_cells(one, one)
        self.assertEqual((str(one), str(other)), texts)


if __name__ == "__main__":
    unittest.main()
