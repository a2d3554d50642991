"""Promises 1 to 3 of stage 4: shelves kept, their wishes, and that all hold behind each change ([2] to [5], [7] to [9], [17])."""

import unittest

from ringshares import errors
from ringshares.errors import (
    Broken, InUse, InvalidIndex, InvalidName, InvalidWish, NotARing, UnknownName,
)
from ringshares.rings import Ring
from ringshares.shelves import Shelf
from tests.models import MOST, free_points, least_up, small_rings, table, widened
from tests.support import (
    APART_TEXT, NAMES, NO_NAMES, ODD_VALUES, PLAIN_TEXT, EqualToAll, Numbers, assert_raises_with, plain_ring,
)
from tests.test_wishes import NO_RING_WISHES, fewest_racks

PLAIN = plain_ring()
APART = Ring.read(APART_TEXT)
MORE = PLAIN.joined("d", "r2", (0,))
WIDER = Ring(13, 2, "hosts", 1, 2, "with", PLAIN.hosts)
TURNED = Ring(12, 3, "hosts", 2, 2, "with", (("a", "r1", (2,)), ("b", "r1", (1,)), ("c", "r2", (9,))))
WIDE = Ring(12, 3, "hosts", 2, 2, "with", PLAIN.hosts)
NO_RINGS = tuple(value for value in NO_NAMES + NAMES if not isinstance(value, Ring)) + (
    PLAIN_TEXT, PLAIN.hosts, (PLAIN,), Shelf(),
)
RING_WISHES = (("share", "a", 9), ("share", "zz", 10 ** 39), ("bears", "hosts", 1, 1), ("bears", "racks", 0, 0), ("racks", 1))

# None of these has the form of a wish for a shelf, whatever stands there.
NO_SHELF_WISHES = ODD_VALUES + RING_WISHES + (
    "now", "alike", ("alike",), ("kin",), ("now",), ("now", None), ("now", ()), ("now", "racks"), ("now", ["racks", 1]),
    ("now", ("alike", "now", "now")), ("now", ("now", ("racks", 1))), ("now", ("racks", 1), ("racks", 1)),
    ("now", ("racks", 1), "now"), (("racks", 1), "now"), ("alike", "now"), ("kin", "now"), ("alike", "now", "now", "now"),
    ("alike", "now", None), ("alike", None, "now"), ("kin", "now", 1), ("kin", True, "now"), ("kin", ("now",), "now"),
    ("kin", "now", ("racks", 1)), ("like", "now", "now"), ("Alike", "now", "now"), ("alike ", "now", "now"),
    ("kind", "now", "now"), ("ki", "now", "now"), (b"kin", "now", "now"), (EqualToAll(), "now", "now"),
    ("kin", EqualToAll(), "now"), ("kin", "now", EqualToAll()), (EqualToAll(), ("racks", 1)), ("now", EqualToAll()),
    ["now", ("racks", 1)], ["kin", "now", "now"], {"now": ("racks", 1)}, ("now", ("safe",)), ("now", ("like", PLAIN_TEXT)),
    ("now", PLAIN), (PLAIN, ("racks", 1)), ("alike", PLAIN, PLAIN), ("now", ("racks", 1, 1)), ("now", ("racks",)),
)


def shown(shelf):
    """Returns all that a shelf shows."""
    return (shelf.names, [str(shelf[name]) for name in shelf.names], shelf.wishes, shelf.changes, len(shelf))


def shelf_of(**rings):
    """Returns a shelf with these rings, put in the order of their names here."""
    shelf = Shelf()
    for name, ring in rings.items():
        shelf[name] = ring
    return shelf


def put(shelf, name, ring):
    shelf[name] = ring


def taken(shelf, name):
    return shelf[name]


class Kept(unittest.TestCase):
    def assert_refused(self, shelf, error, attribute, value, call, *given, **named):
        """Holds that a call raises this error, and that nothing has changed then."""
        before = shown(shelf)
        assert_raises_with(self, error, attribute, value, call, *given, **named)
        self.assertEqual(shown(shelf), before)

    def test_the_examples_of_the_document(self):
        shelf = Shelf()
        shelf["now"] = PLAIN
        shelf["soon"] = MORE
        self.assertIsNone(shelf.wish(("now", ("share", "a", 9))))
        self.assertIsNone(shelf.wish(("kin", "now", "now")))
        self.assertEqual([shelf.names, len(shelf.wishes), shelf.changes, "c" in shelf], [("now", "soon"), 2, 4, False])
        self.assert_refused(shelf, Broken, "index", 2, shelf.wish, ("alike", "now", "soon"))

    def test_at_first(self):
        shelf = Shelf()
        self.assertEqual(shown(shelf), ((), [], (), 0, 0))
        self.assertIs(bool(shelf), True)
        for value in NO_NAMES + NAMES:
            self.assertIs(value in shelf, False)

    def test_put_also_in_the_place_of_others(self):
        shelf = Shelf()
        for k, name in enumerate(NAMES):
            shelf[name] = PLAIN
            self.assertEqual((shelf.names, len(shelf), shelf.changes), (tuple(sorted(NAMES[:k + 1])), k + 1, k + 1))
            self.assertIs(shelf[name], PLAIN)
        for k, name in enumerate(NAMES):
            shelf[name] = MORE
            self.assertIs(shelf[name], MORE)
            self.assertEqual((len(shelf), shelf.changes), (len(NAMES), len(NAMES) + k + 1))
        shelf["a"] = shelf["a"]
        self.assertEqual((len(shelf), shelf.changes), (len(NAMES), 2 * len(NAMES) + 1))
        self.assertIs(bool(shelf), True)

    def test_taken_away(self):
        shelf = shelf_of(now=PLAIN, soon=MORE, then=APART)
        self.assertIsNone(shelf.remove("soon"))
        self.assertIsNone(shelf.remove(name="now"))
        self.assertEqual((shelf.names, shelf.changes, len(shelf)), (("then",), 5, 1))
        self.assertEqual([name in shelf for name in ("now", "soon", "then")], [False, False, True])
        self.assert_refused(shelf, UnknownName, "given", "soon", shelf.remove, "soon")
        self.assert_refused(shelf, UnknownName, "given", "soon", taken, shelf, "soon")
        shelf.remove("then")
        self.assertEqual((shelf.names, len(shelf)), ((), 0))
        shelf["soon"] = PLAIN
        self.assertEqual(shelf["soon"], PLAIN)

    def test_what_is_no_name(self):
        for shelf in (Shelf(), shelf_of(now=PLAIN)):
            for value in NO_NAMES:
                for ring in (PLAIN, None):
                    self.assert_refused(shelf, InvalidName, "given", value, put, shelf, value, ring)

    def test_what_is_no_ring(self):
        for shelf in (Shelf(), shelf_of(now=PLAIN)):
            for value in NO_RINGS:
                for name in ("now", "soon"):
                    self.assert_refused(shelf, NotARing, "given", value, put, shelf, name, value)

    def test_a_name_then_a_ring_then_the_wishes(self):
        shelf = shelf_of(now=PLAIN)
        shelf.wish(("now", ("share", "a", 9)))
        self.assert_refused(shelf, InvalidName, "given", "Now", put, shelf, "Now", None)
        self.assert_refused(shelf, NotARing, "given", None, put, shelf, "now", None)
        self.assert_refused(shelf, Broken, "index", 0, put, shelf, "now", Ring(12, 3, "hosts", 1, 1, "with", PLAIN.hosts))

    def test_reading_and_removing_what_is_not_there(self):
        for shelf in (Shelf(), shelf_of(now=PLAIN, soon=MORE)):
            for value in NO_NAMES + NAMES + ("nov", "no", "nows", "Now", ("now",), PLAIN):
                self.assert_refused(shelf, UnknownName, "given", value, taken, shelf, value)
                self.assert_refused(shelf, UnknownName, "given", value, shelf.remove, value)
                self.assert_refused(shelf, UnknownName, "given", value, shelf.remove, name=value)
                self.assertIs(value in shelf, False)

    def test_equal_to_itself_alone(self):
        one, other = shelf_of(now=PLAIN), shelf_of(now=PLAIN)
        for shelf in (Shelf(), one):
            for value in NO_NAMES + (other, Shelf(), PLAIN, one.trial(), EqualToAll(), Shelf):
                self.assertIs(shelf == value, False)
                self.assertIs(shelf != value, True)
            self.assertIs(shelf == shelf, True)
            self.assertIs(shelf != shelf, False)
        with one.trial() as same:
            self.assertIs(same, one)
            self.assertIs(same == one, True)

    def test_what_it_showed_stays(self):
        shelf = shelf_of(now=PLAIN)
        shelf.wish(("now", ("racks", 1)))
        names, wishes = shelf.names, shelf.wishes
        shelf["soon"] = MORE
        shelf.lift(0)
        self.assertEqual((names, wishes, str(PLAIN)), (("now",), (("now", ("racks", 1)),), PLAIN_TEXT))


class Wishes(unittest.TestCase):
    assert_refused = Kept.assert_refused

    def test_what_has_no_form(self):
        for shelf in (Shelf(), shelf_of(now=PLAIN, soon=MORE)):
            for value in NO_SHELF_WISHES:
                self.assert_refused(shelf, InvalidWish, "given", value, shelf.wish, value)
                self.assert_refused(shelf, InvalidWish, "given", value, shelf.wish, wish=value)

    def test_each_element_of_each_form_otherwise(self):
        shelf = shelf_of(now=PLAIN, soon=MORE)
        for value in NO_NAMES:
            for wish in [(value, wish) for wish in RING_WISHES] + [
                    (word,) + pair for word in ("alike", "kin") for pair in ((value, "now"), ("now", value), (value, value))]:
                self.assert_refused(shelf, InvalidWish, "given", wish, shelf.wish, wish)
        for value in NO_RING_WISHES:
            for name in ("now", "zz"):
                wish = (name, value)
                self.assert_refused(shelf, InvalidWish, "given", wish, shelf.wish, wish)

    def test_names_under_which_nothing_stands(self):
        shelf = shelf_of(now=PLAIN)
        for word in ("alike", "kin"):
            for one, other in (("zz", "now"), ("zz", "yy"), ("now", "yy"), ("a", "b")):
                wish = (word, "".join(one), "".join(other))
                given = wish[2] if one == "now" else wish[1]
                self.assert_refused(shelf, UnknownName, "given", given, shelf.wish, wish)
        for wish in RING_WISHES + (("share", "a", 0),):
            for name in ("soon", "a", "c", "alike", "kin", "share"):
                self.assert_refused(shelf, UnknownName, "given", name, shelf.wish, (name, wish))

    def test_any_name_of_a_host(self):
        shelf = shelf_of(now=PLAIN)
        self.assert_refused(shelf, Broken, "index", 0, shelf.wish, ("now", ("share", "zz", 10 ** 18)))
        self.assert_refused(shelf, Broken, "index", 0, shelf.wish, wish=("now", ("share", "a", 8)))
        shelf.wish(("now", ("share", "a", 9)))
        self.assert_refused(shelf, Broken, "index", 1, shelf.wish, ("now", ("share", "zz", 10 ** 18)))

    def test_rings_named_like_words(self):
        shelf = shelf_of(alike=PLAIN, kin=PLAIN, share=MORE)
        for wish in (("alike", ("racks", 1)), ("kin", ("racks", 1)), ("alike", "kin", "alike"), ("kin", "kin", "alike")):
            shelf.wish(wish)
        self.assert_refused(shelf, Broken, "index", 4, shelf.wish, ("alike", "share", "kin"))
        self.assert_refused(shelf, InUse, "index", 0, shelf.remove, "alike")
        self.assert_refused(shelf, InUse, "index", 1, shelf.remove, "kin")
        shelf.remove("share")

    def test_lifted_by_its_index(self):
        wishes = (("now", ("racks", 1)), ("kin", "now", "now"), ("now", ("share", "a", 9)), ("now", ("racks", 1)))
        for index in range(4):
            shelf = shelf_of(now=PLAIN)
            for wish in wishes:
                shelf.wish(wish)
            self.assertIsNone(shelf.lift(index) if index % 2 else shelf.lift(index=index))
            self.assertEqual((shelf.wishes, shelf.changes), (wishes[:index] + wishes[index + 1:], 6))
            for k in (2, 1, 0):
                shelf.lift(k)
            self.assertEqual((shelf.wishes, shelf.changes), ((), 9))

    def test_what_is_no_index(self):
        two = shelf_of(now=PLAIN)
        two.wish(("now", ("racks", 1)))
        two.wish(("kin", "now", "now"))
        for shelf in (Shelf(), shelf_of(now=PLAIN), two):
            for value in ODD_VALUES + (-1, -2, len(shelf.wishes), 3, 10 ** 39, -10 ** 39, "0", "1", (0,), "now"):
                self.assert_refused(shelf, InvalidIndex, "given", value, shelf.lift, value)
                self.assert_refused(shelf, InvalidIndex, "given", value, shelf.lift, index=value)

    def test_in_use_with_the_first_wish(self):
        shelf = shelf_of(now=PLAIN, soon=PLAIN, then=PLAIN, rest=PLAIN)
        for wish in (("now", ("racks", 1)), ("alike", "soon", "now"), ("kin", "then", "soon"), ("now", ("racks", 1))):
            shelf.wish(wish)
        for name, index in (("now", 0), ("soon", 1), ("then", 2)):
            self.assert_refused(shelf, InUse, "index", index, shelf.remove, name)
            self.assert_refused(shelf, InUse, "index", index, shelf.remove, name=name)
        shelf.remove("rest")
        shelf.lift(2)
        shelf.remove("then")
        shelf.lift(1)
        shelf.remove("soon")
        shelf.lift(0)
        self.assert_refused(shelf, InUse, "index", 0, shelf.remove, "now")
        shelf.lift(0)
        shelf.remove("now")
        self.assertEqual(shelf.names, ())

    def test_each_of_its_own_class_and_base(self):
        for error, base in ((InvalidName, errors.BadValue), (NotARing, errors.BadValue), (InvalidWish, errors.BadValue),
                            (InvalidIndex, errors.BadValue), (UnknownName, errors.BadName), (InUse, errors.BadName),
                            (Broken, errors.NoAnswer)):
            bases = [other for other in (errors.BadValue, errors.BadName, errors.NoAnswer) if issubclass(error, other)]
            self.assertEqual(bases, [base])


def is_plain_held(rings, wish):
    """Tells whether a wish holds for a shelf with these small rings, by the plain models alone."""
    if wish[0] in ("alike", "kin"):
        one, other = rings[wish[1]], rings[wish[2]]
        if one.points != other.points:
            return False
        pairs = zip(table(one), table(other))
        return all(old == new if wish[0] == "alike" else set(old) == set(new) for old, new in pairs)
    ring = rings[wish[0]]
    match wish[1]:
        case ("share", name, most):
            return name in ring.names and sum(name in keepers for keepers in table(ring)) <= most
        case ("bears", kind, down, left):
            return left <= least_up(ring, kind, down)
        case ("racks", many):
            return fewest_racks(ring, ring.hosts) >= many


def some_wish(numbers, names):
    """Returns a wish about some of these names."""
    one, other = names[numbers.below(len(names))], names[numbers.below(len(names))]
    return (
        (one, ("share", ("a", "b", "h0", "h1")[numbers.below(4)], numbers.below(16))),
        (one, ("bears", ("hosts", "racks")[numbers.below(2)], numbers.below(3), numbers.below(3))),
        (one, ("racks", 1 + numbers.below(3))), ("alike", one, other), ("kin", one, other), ("kin", one, other),
    )[numbers.below(6)]


class Live(unittest.TestCase):
    def assert_all_hold(self, shelf):
        rings = {name: shelf[name] for name in shelf.names}
        self.assertTrue(all(is_plain_held(rings, wish) for wish in shelf.wishes))

    def try_put(self, shelf, name, ring):
        """Puts a ring, or holds that it is refused with the first wish that would not hold."""
        rings = {old: shelf[old] for old in shelf.names}
        rings[name] = ring
        broken = [k for k, wish in enumerate(shelf.wishes) if not is_plain_held(rings, wish)]
        before = shown(shelf)
        if broken:
            with self.assertRaises(Broken) as caught:
                shelf[name] = ring
            self.assertEqual((caught.exception.index, shown(shelf)), (broken[0], before))
        else:
            shelf[name] = ring
            self.assertEqual((shelf[name], shelf.changes), (ring, before[3] + 1))
        return ("put", broken[0] if broken else None)

    def try_wish(self, shelf, wish):
        rings = {old: shelf[old] for old in shelf.names}
        before = shown(shelf)
        told = is_plain_held(rings, wish)
        if told:
            shelf.wish(wish)
            self.assertEqual((shelf.wishes, shelf.changes), (before[2] + (wish,), before[3] + 1))
        else:
            with self.assertRaises(Broken) as caught:
                shelf.wish(wish)
            self.assertEqual((caught.exception.index, shown(shelf)), (len(before[2]), before))
        return (wish[0] if len(wish) == 3 else wish[1][0], told)

    def test_rings_and_wishes_of_all_kinds(self):
        numbers = Numbers(17)
        seen = set()
        rings = [ring for ring in small_rings() if len(ring) < 5 and ring.points < 20]
        rings += [PLAIN, APART, MORE, WIDE, TURNED, WIDER, PLAIN.ruled(2, 2, "plain"), WIDE.ruled(1, 1, "plain")] * 4
        for _ in range(40):
            shelf = shelf_of(now=PLAIN, soon=rings[numbers.below(len(rings))], late=WIDE)
            for _ in range(14):
                if numbers.below(3):
                    name = shelf.names[numbers.below(3)]
                    seen.add(self.try_put(shelf, name, rings[numbers.below(len(rings))]))
                else:
                    seen.add(self.try_wish(shelf, some_wish(numbers, shelf.names)))
                self.assert_all_hold(shelf)
        words = ("share", "bears", "racks", "alike", "kin")
        self.assertTrue({(word, told) for word in words for told in (True, False)} <= seen)
        self.assertTrue({("put", None), ("put", 0), ("put", 1), ("put", 2)} <= seen)

    def test_other_points_are_neither_alike_nor_kin(self):
        for word in ("alike", "kin"):
            shelf = shelf_of(now=PLAIN, soon=WIDER, late=PLAIN)
            for wish in ((word, "now", "soon"), (word, "soon", "now")):
                with self.assertRaises(Broken):
                    shelf.wish(wish)
            shelf.wish((word, "now", "late"))
            shelf.wish((word, "soon", "soon"))
            for name in ("now", "late"):
                with self.assertRaises(Broken) as caught:
                    shelf[name] = WIDER
                self.assertEqual(caught.exception.index, 0)
            shelf["soon"] = PLAIN

    def test_kin_but_not_alike(self):
        shelf = shelf_of(wide=WIDE, turned=TURNED)
        shelf.wish(("kin", "wide", "turned"))
        with self.assertRaises(Broken) as caught:
            shelf.wish(("alike", "wide", "turned"))
        self.assertEqual(caught.exception.index, 1)
        shelf["turned"] = WIDE.ruled(1, 1, "plain")
        shelf.wish(("alike", "wide", "turned"))
        with self.assertRaises(Broken) as caught:
            shelf["turned"] = TURNED
        self.assertEqual(caught.exception.index, 1)

    def test_rings_of_many_points(self):
        width = 10 ** 16
        large = widened(PLAIN, width)
        full = Ring(MOST, 1, "hosts", 1, 1, "plain", (("a", "r", (0,)), ("b", "r", (MOST // 2,))))
        shelf = shelf_of(now=full, soon=large)
        shelf.wish(("now", ("share", "a", MOST // 2)))
        shelf.wish(("soon", ("share", "a", 9 * width)))
        for wish in (("now", ("share", "a", MOST // 2 - 1)), ("soon", ("share", "a", 9 * width - 1)), ("kin", "now", "soon")):
            with self.assertRaises(Broken):
                shelf.wish(wish)
        self.assertEqual(free_points(PLAIN)[0], 0)
        shelf["soon"] = large.joined("d", "r2", (width - 1,))
        self.assertEqual(shelf.changes, 5)


if __name__ == "__main__":
    unittest.main()
