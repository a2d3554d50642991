"""Promises 4 and 5: arguments that no ring takes, and the first wrong host ([4], [6])."""

import unittest

from ringshares.errors import InvalidHosts, InvalidNumber, InvalidPending, InvalidSpread
from ringshares.rings import Ring
from tests.support import NO_NAMES, ODD_VALUES, PLAIN_HOSTS, assert_raises_with, full_hosts

GOOD = (12, 3, "hosts", 2, 2, "with", PLAIN_HOSTS)
ARGUMENTS = ("points", "factor", "spread", "write", "read", "pending", "hosts")
ERRORS = (
    InvalidNumber, InvalidNumber, InvalidSpread, InvalidNumber, InvalidNumber, InvalidPending, InvalidHosts,
)


def with_value(place, value):
    return GOOD[:place] + (value,) + GOOD[place + 1:]


class Refused(unittest.TestCase):
    def assert_refused(self, place, value):
        """Holds that the value is refused at its place, by position and by name."""
        values = with_value(place, value)
        attribute, kept = ("index", None) if place == 6 else ("given", value)
        assert_raises_with(self, ERRORS[place], attribute, kept, Ring, *values)
        assert_raises_with(self, ERRORS[place], attribute, kept, Ring, **dict(zip(ARGUMENTS, values)))

    def test_numbers_near_their_bounds(self):
        wrong = (
            (0, (0, -1, -12, 10 ** 18 + 1, 10 ** 19, -10 ** 18, 10 ** 39)),
            (1, (0, -1, 6, 7, 12, 10 ** 18)),
            (3, (0, -1, 4, 5, 6, 10 ** 18)),
            (4, (0, -1, 4, 5, 6, 10 ** 18)),
        )
        for place, values in wrong:
            for value in values:
                self.assert_refused(place, value)

    def test_write_and_read_are_bound_by_the_factor(self):
        for factor in range(1, 6):
            for place in (3, 4):
                values = [12, factor, "racks", 1, 1, "plain", PLAIN_HOSTS]
                values[place] = factor + 1
                assert_raises_with(self, InvalidNumber, "given", values[place], Ring, *values)

    def test_words(self):
        for value in ("host", "Hosts", "HOSTS", "hosts ", " racks", "rack", "racks\n", "plain", "with", 0, 1):
            self.assert_refused(2, value)
        for value in ("Plain", "WITH", "with ", " with", "plain\n", "without", "hosts", "racks", 0, 1):
            self.assert_refused(5, value)

    def test_values_of_other_kinds(self):
        for place in range(6):
            for value in ODD_VALUES + (("hosts",), ["with"], "1", "2", "12"):
                self.assert_refused(place, value)

    def test_no_tuple_of_hosts(self):
        for value in NO_NAMES + ("a", "host", 3, list(PLAIN_HOSTS), dict.fromkeys(PLAIN_HOSTS)):
            if not isinstance(value, tuple) or value == ():
                self.assert_refused(6, value)

    def test_the_first_error_in_the_order_of_the_signature(self):
        wrong = ([0], True, ["hosts"], [2], False, ["with"], [])
        for places in range(1, 2 ** 7):
            at = [k for k in range(7) if places >> k & 1]
            values = tuple(wrong[k] if k in at else GOOD[k] for k in range(7))
            first = at[0]
            attribute, kept = ("index", None) if first == 6 else ("given", wrong[first])
            assert_raises_with(self, ERRORS[first], attribute, kept, Ring, *values)


class Hosts(unittest.TestCase):
    def assert_wrong_at(self, index, hosts, points=12):
        arguments = (points, 2, "hosts", 1, 2, "with", tuple(hosts))
        assert_raises_with(self, InvalidHosts, "index", index, Ring, *arguments)

    def assert_wrong_host(self, host):
        """Holds that the host is found alone, and behind right ones, and ahead of wrong ones."""
        self.assert_wrong_at(0, (host,))
        self.assert_wrong_at(0, (host,) + PLAIN_HOSTS)
        self.assert_wrong_at(1, PLAIN_HOSTS[:1] + (host, None))
        self.assert_wrong_at(3, PLAIN_HOSTS + (host,))
        self.assert_wrong_at(3, PLAIN_HOSTS + (host, None, host))

    def test_no_tuple_of_three(self):
        for host in ODD_VALUES + (
            "abc", ("d",), ("d", "r"), ("d", "r", (0,), 1), ("d", "r", (0,), ()), ["d", "r", (0,)],
            {"d": 1, "r": 2, "x": 3}, ("d", "r", 0), (("d", "r", (0,)),),
        ):
            self.assert_wrong_host(host)

    def test_no_names(self):
        for value in NO_NAMES:
            self.assert_wrong_host((value, "r", (0,)))
            self.assert_wrong_host(("d", value, (0,)))

    def test_marks_that_are_no_row_of_points(self):
        for marks in ODD_VALUES + (
            0, 1, "0", [0], (0, 0), (1, 0), (0, 3, 1), (0, 1, 1), (-1,), (-1, 0), (12,), (0, 12), (0, 13),
            (10 ** 18,), (10 ** 39,), (0, True), (False,), (False, 1), (0, None), (0, "1"), ("0",), ((0,),),
            (0, [1]), {0: 1},
        ):
            self.assert_wrong_host(("d", "r", marks))

    def test_at_most_sixteen_marks(self):
        for many in (17, 18, 100):
            self.assert_wrong_at(0, (("a", "r", tuple(range(many))),), 100)
            self.assert_wrong_at(1, (("a", "r", (99,)), ("b", "r", tuple(range(many)))), 101)
        Ring(100, 1, "hosts", 1, 1, "plain", (("a", "r", tuple(range(16))),))

    def test_marks_are_points_of_the_ring(self):
        for points in (1, 2, 12, 10 ** 18):
            Ring(points, 1, "hosts", 1, 1, "plain", (("a", "r", (points - 1,)),))
            self.assert_wrong_at(0, (("a", "r", (points,)),), points)
            self.assert_wrong_at(0, (("a", "r", (points - 1, points)),), points)

    def test_names_that_stand_ahead(self):
        a, b, c = PLAIN_HOSTS
        self.assert_wrong_at(1, (a, ("a", "r9", (0,)), b))
        self.assert_wrong_at(3, (a, b, c, ("b", "r9", (0,))))
        self.assert_wrong_at(3, (a, b, c, ("c", "r2", (0,)), None))
        self.assert_wrong_at(1, (a, a))

    def test_marks_of_another_host(self):
        a, b, c = PLAIN_HOSTS
        self.assert_wrong_at(1, (a, ("b", "r", (2,)), c))
        self.assert_wrong_at(3, (a, b, c, ("d", "r", (0, 5, 11))))
        self.assert_wrong_at(3, (a, b, c, ("d", "r", (9,)), ("e", "r", (9,))))
        self.assert_wrong_at(2, (("a", "r", (0, 4, 8)), ("b", "r", (1, 5, 9)), ("c", "r", (2, 6, 8))))

    def test_racks_may_be_alike_and_like_names(self):
        hosts = (("a", "a", (0,)), ("b", "a", (1,)), ("c", "b", (2,)))
        self.assertEqual(Ring(3, 1, "racks", 1, 1, "plain", hosts).hosts, hosts)

    def test_a_thirteenth_host(self):
        full = full_hosts()
        for last in (("h12", "r", (5,)), full[0], None, (), ("A", "r", (5,))):
            self.assert_wrong_at(12, full + (last,), 200)
            self.assert_wrong_at(12, full + (last, last), 200)
        for index in (0, 5, 11):
            broken = full[:index] + (None,) + full[index + 1:] + (("h12", "r", (5,)),)
            self.assert_wrong_at(index, broken, 200)
        self.assert_wrong_at(12, tuple((f"h{k}", "r", (k,)) for k in range(30)), 200)


if __name__ == "__main__":
    unittest.main()
