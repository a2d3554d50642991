"""Promises 3 and 4 of stage 2: how many keys the hosts keep, and the best mark ([7], [8], interface)."""

import unittest

from ringshares.cells import best_mark, cells, greatest, kept, leads, shares
from ringshares.rings import Ring
from tests.models import MOST, free_points, marks_of, plain_best_mark, small_rings, table, widened
from tests.support import APART_TEXT, Numbers, mixed_rings, plain_ring

TWO_HOSTS = (("a", "r", (0,)), ("b", "r", (3,)))


def with_mark(ring, name, point):
    """Returns the ring with one mark more."""
    hosts = tuple((host, rack, tuple(sorted(marks + (point,))) if host == name else marks)
                  for host, rack, marks in ring.hosts)
    return Ring(ring.points, ring.factor, ring.spread, 1, 1, "plain", hosts)


class Shares(unittest.TestCase):
    def test_the_examples_of_the_document(self):
        plain, apart = plain_ring(), Ring.read(APART_TEXT)
        self.assertEqual([kept(plain, "a"), leads(plain, "a")], [9, 5])
        self.assertEqual([shares(apart), greatest(apart)], [(("a", 9), ("b", 3), ("c", 12)), 12])
        self.assertEqual(shares(Ring(10, 1, "hosts", 1, 1, "plain", TWO_HOSTS)), (("a", 7), ("b", 3)))

    def assert_counted(self, ring, rows, width):
        """Holds the shares of a ring against rows of keepers, each for so many keys."""
        pairs = []
        for name in ring.names:
            many = width * sum(name in keepers for keepers in rows)
            first = width * sum(name == keepers[0] for keepers in rows)
            self.assertEqual([kept(ring, name), kept(name=name, ring=ring)], [many, many])
            self.assertEqual([leads(ring, name), leads(name=name, ring=ring)], [first, first])
            pairs.append((name, many))
        self.assertEqual([shares(ring), shares(ring=ring)], [tuple(pairs), tuple(pairs)])
        most = max(many for _, many in pairs)
        self.assertEqual([greatest(ring), greatest(ring=ring)], [most, most])

    def test_counted_key_by_key(self):
        for ring in small_rings() + mixed_rings()[-1:]:
            self.assert_counted(ring, table(ring), 1)

    def test_on_rings_of_many_points(self):
        for ring in small_rings()[::3]:
            for width in (10 ** 7, 10 ** 16):
                self.assert_counted(widened(ring, width), table(ring), width)

    def test_all_shares_together(self):
        for small in small_rings():
            for ring in (small, widened(small, 10 ** 16)):
                together = min(ring.factor, len(ring)) * ring.points
                self.assertEqual(sum(many for _, many in shares(ring)), together)
                self.assertEqual(sum(leads(ring, name) for name in ring.names), ring.points)

    def test_exact_on_the_most_points(self):
        ring = Ring(MOST, 1, "hosts", 1, 1, "plain", (("a", "r", (0, 2)), ("b", "r", (1,)), ("c", "r", (MOST - 1,))))
        self.assertEqual(shares(ring), (("a", 2), ("b", 1), ("c", MOST - 3)))
        self.assertEqual([leads(ring, name) for name in "abc"], [2, 1, MOST - 3])
        two = Ring(MOST, 2, "hosts", 1, 1, "plain", ring.hosts)
        self.assertEqual(shares(two), (("a", MOST), ("b", 2), ("c", MOST - 2)))
        self.assertEqual(greatest(two), MOST)

    def test_names_ascending_and_a_host_that_keeps_nothing(self):
        hosts = (("c", "r", (1,)), ("b", "s", (4,)), ("a", "r", (2,)))
        ring = Ring(5, 1, "hosts", 1, 1, "plain", hosts)
        self.assertEqual(shares(ring), (("a", 1), ("b", 2), ("c", 2)))
        hidden = Ring(5, 2, "racks", 1, 1, "plain", (("c", "r", (1,)), ("b", "s", (4,)), ("a", "r", (0,))))
        self.assertEqual(shares(hidden), (("a", 4), ("b", 5), ("c", 1)))
        unused = Ring(4, 2, "racks", 1, 1, "plain", (("a", "r", (0, 2)), ("b", "r", (1,)), ("c", "s", (3,))))
        self.assertEqual(shares(unused), (("a", 3), ("b", 1), ("c", 4)))


class BestMarks(unittest.TestCase):
    def test_the_examples_of_the_document(self):
        two = Ring(10, 1, "hosts", 1, 1, "plain", TWO_HOSTS)
        self.assertEqual([best_mark(two, "b"), best_mark(plain_ring(), "c")], [(5, 5), (6, 9)])
        self.assertEqual(best_mark(name="b", ring=two), (5, 5))

    def test_all_points_tried(self):
        tried = 0
        for ring in small_rings():
            names = ring.names if tried % 2 else ring.names[:2]
            for name in names:
                if len(ring[name][1]) < 16 and free_points(ring):
                    self.assertEqual(best_mark(ring, name), plain_best_mark(ring, name), (str(ring), name))
                    tried += 1
        self.assertGreater(tried, 200)

    def test_one_host_and_hosts_that_keep_all(self):
        for mark, point in ((0, 1), (1, 0), (5, 0), (9, 0)):
            for factor in (1, 5):
                ring = Ring(10, factor, "racks", 1, 1, "plain", (("a", "r", (mark,)),))
                self.assertEqual(best_mark(ring, "a"), (point, 10))
        all_keep = Ring(MOST, 3, "hosts", 1, 1, "plain", (("a", "r", (0, 2)), ("b", "r", (1,))))
        self.assertEqual([best_mark(all_keep, "a"), best_mark(all_keep, "b")], [(3, MOST), (3, MOST)])

    def test_the_point_0_round_the_end(self):
        part = MOST // 10
        for mark, point in ((2, 0), (1, 0), (0, 1)):
            hosts = (("a", "r", (mark,)), ("c", "r", (part,)), ("b", "r", (5 * part,)), ("d", "r", (9 * part,)))
            ring = Ring(MOST, 1, "hosts", 1, 1, "plain", hosts)
            # The hosts b and d keep as much, and one mark relieves one of them: no point is better than another.
            self.assertEqual([best_mark(ring, name) for name in "ac"], [(point, 4 * part)] * 2)
        for half in (2, 3, 7, MOST // 2 - 1):
            # The last point and the point 0 part the keys equally well.
            ring = Ring(2 * half + 1, 1, "hosts", 1, 1, "plain", (("a", "r", (half,)), ("b", "r", (half + 1,))))
            self.assertEqual(best_mark(ring, "b"), (0, half + 1))

    def test_exact_halves_on_the_most_points(self):
        for points, told in ((MOST, (MOST // 2, MOST // 2)), (MOST - 1, (MOST // 2 - 1, MOST // 2))):
            ring = Ring(points, 1, "hosts", 1, 1, "plain", TWO_HOSTS)
            self.assertEqual(best_mark(ring, "b"), told)
        ring = Ring(MOST, 1, "hosts", 1, 1, "plain", (("b", "r", (0,)), ("a", "r", (MOST - 4,))))
        # A mark of b behind its own takes from a what lies ahead of it.
        self.assertEqual(best_mark(ring, "b"), (MOST // 2 - 4, MOST // 2))

    def test_the_last_free_point(self):
        for free in range(6):
            marks = tuple(point for point in range(6) if point != free)
            ring = Ring(6, 1, "hosts", 1, 1, "plain", (("a", "r", marks[:1]), ("b", "r", marks[1:])))
            for name in "ab":
                self.assertEqual(best_mark(ring, name), (free, greatest(with_mark(ring, name, free))))

    def test_no_point_is_better_on_the_most_points(self):
        numbers = Numbers(31)
        for ring in small_rings()[5:100:9]:
            wide = widened(ring, 10 ** 16)
            for name in ring.names[:3]:
                if len(ring[name][1]) < 16:
                    self.assert_none_better(wide, name, numbers)

    def assert_none_better(self, ring, name, numbers):
        point, number = best_mark(ring, name)
        self.assertNotIn(point, marks_of(ring))
        self.assertEqual(greatest(with_mark(ring, name, point)), number)
        tried = [point - 1, point + 1] + [numbers.below(ring.points) for _ in range(5)]
        for first, many, _ in cells(ring):
            tried += [first, first + 1, first + many // 2, first + many - 2]
        for other in [other % ring.points for other in tried]:
            if other not in marks_of(ring):
                found = greatest(with_mark(ring, name, other))
                self.assertGreaterEqual((found, other), (number, point))

    def test_full_rings_at_once(self):
        for spread in ("hosts", "racks"):
            hosts = tuple((f"h{k}", f"r{k % 4}", tuple(MOST // 17 * n + k ** 9 for n in range(16 - k % 2)))
                          for k in range(12))
            ring = Ring(MOST, 5, spread, 5, 5, "with", hosts)
            for name in ("h1", "h7", "h11"):
                point, number = best_mark(ring, name)
                self.assertEqual(greatest(with_mark(ring, name, point)), number)
                self.assertLessEqual(number, greatest(ring) + MOST)

    def test_pairs_of_integers(self):
        told = best_mark(plain_ring(), "a")
        self.assertEqual((type(told), [type(part) for part in told]), (tuple, [int, int]))


if __name__ == "__main__":
    unittest.main()
