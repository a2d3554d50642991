"""Promises 4 and 5 of stage 4: shelves taken back, and trials of shelves ([3], [4], [17])."""

import unittest

from ringshares import errors
from ringshares.errors import Broken, InUse, InvalidIndex, InvalidName, InvalidWish, NotARing, NothingToUndo, UnknownName
from ringshares.shelves import Shelf
from tests.support import Numbers
from tests.test_shelves import APART, MORE, PLAIN, TURNED, WIDE, WIDER, put, shelf_of, shown
from tests.trial_rows import TrialRows

RINGS = (PLAIN, APART, MORE, TURNED, WIDE, WIDER)
NAMES = ("now", "soon", "late")
WISHES = (
    ("now", ("racks", 1)), ("kin", "soon", "late"), ("alike", "now", "now"), ("late", ("share", "a", 9)),
    ("kin", "now", "soon"), ("soon", ("bears", "hosts", 1, 1)),
)


def some_act(numbers):
    """Returns a change of a shelf, which may be refused."""
    name, ring = NAMES[numbers.below(3)], RINGS[numbers.below(6)]
    wish = WISHES[numbers.below(6)]
    return (
        lambda shelf: put(shelf, name, ring), lambda shelf: put(shelf, name, PLAIN), lambda shelf: shelf.remove(name),
        lambda shelf: shelf.wish(wish), lambda shelf: shelf.wish(wish), lambda shelf: shelf.lift(numbers.below(3)),
    )[numbers.below(6)]


class Undone(unittest.TestCase):
    def test_all_kinds_of_changes_one_by_one(self):
        shelf = Shelf()
        rows = [shown(shelf)]
        for act in (lambda: put(shelf, "now", PLAIN), lambda: put(shelf, "soon", MORE), lambda: put(shelf, "now", APART),
                    lambda: shelf.wish(("now", ("racks", 2))), lambda: shelf.wish(("kin", "soon", "soon")),
                    lambda: shelf.lift(0), lambda: shelf.remove("now"), lambda: shelf.lift(0), lambda: shelf.remove("soon")):
            act()
            rows.append(shown(shelf))
        for k in range(9, 0, -1):
            self.assertEqual((shown(shelf), shelf.changes), (rows[k], k))
            self.assertIsNone(shelf.undo())
        self.assertEqual(shown(shelf), rows[0])
        self.assertRaises(NothingToUndo, shelf.undo)
        self.assertEqual(shown(shelf), rows[0])

    def test_changes_that_change_nothing_count(self):
        shelf = shelf_of(now=PLAIN)
        shelf["now"] = PLAIN
        shelf["now"] = shelf["now"]
        self.assertEqual(shelf.changes, 3)
        for k in (2, 1):
            shelf.undo()
            self.assertEqual((shelf.changes, shelf["now"]), (k, PLAIN))
        shelf.undo()
        self.assertEqual((shelf.changes, shelf.names), (0, ()))
        self.assertRaises(NothingToUndo, shelf.undo)

    def test_refused_calls_do_not(self):
        shelf = shelf_of(now=PLAIN, soon=MORE)
        shelf.wish(("now", ("share", "a", 9)))
        shelf.wish(("alike", "now", "now"))
        for error, call in (
            (InvalidName, lambda: put(shelf, "Now", PLAIN)), (NotARing, lambda: put(shelf, "now", None)),
            (Broken, lambda: put(shelf, "now", WIDE)), (UnknownName, lambda: shelf.remove("late")),
            (InUse, lambda: shelf.remove("now")), (InvalidWish, lambda: shelf.wish(("now",))),
            (UnknownName, lambda: shelf.wish(("late", ("racks", 1)))), (Broken, lambda: shelf.wish(("kin", "now", "soon"))),
            (InvalidIndex, lambda: shelf.lift(2)), (UnknownName, lambda: shelf["late"]),
        ):
            before = shown(shelf)
            self.assertRaises(error, call)
            self.assertEqual((shown(shelf), shelf.changes), (before, 4))
        shelf.undo()
        self.assertEqual((shelf.wishes, shelf.changes), ((("now", ("share", "a", 9)),), 3))

    def test_mixed_changes_against_a_row_of_conditions(self):
        numbers = Numbers(44)
        for _ in range(12):
            shelf = Shelf()
            rows = [shown(shelf)]
            for _ in range(60):
                if numbers.below(4) == 0 and len(rows) > 1:
                    shelf.undo()
                    rows.pop()
                else:
                    try:
                        some_act(numbers)(shelf)
                        rows.append(shown(shelf))
                    except (errors.BadValue, errors.BadName, errors.NoAnswer):
                        pass
                self.assertEqual((shown(shelf), shelf.changes), (rows[-1], len(rows) - 1))

    def test_another_shelf_stays_as_it_is(self):
        one, other = shelf_of(now=PLAIN), shelf_of(now=PLAIN, soon=MORE)
        before = shown(other)
        one.undo()
        one["late"] = APART
        self.assertRaises(UnknownName, one.remove, "now")
        self.assertEqual(shown(other), before)
        self.assertEqual(shown(Shelf()), ((), [], (), 0, 0))

    def test_nothing_to_undo_of_its_own_class_and_base(self):
        with self.assertRaises(NothingToUndo) as caught:
            Shelf().undo()
        self.assertIs(caught.exception.__class__, NothingToUndo)
        self.assertTrue(issubclass(NothingToUndo, errors.NoAnswer))
        self.assertFalse(issubclass(NothingToUndo, (errors.BadValue, errors.BadName)))


class Trials(TrialRows, unittest.TestCase):
    def begun(self):
        shelf = Shelf()
        shelf["now"] = PLAIN
        shelf.wish(("now", ("share", "a", 9)))
        return shelf

    def changed(self, shelf):
        shelf["now"] = MORE
        shelf.lift(0)
        shelf.remove("now")

    def little(self, shelf):
        shelf["late"] = PLAIN

    def refused(self, shelf):
        shelf["now"] = WIDE

    def shown(self, shelf):
        return shown(shelf)

    def test_rings_and_wishes(self):
        shelf = self.begun()
        with self.assertRaises(UnknownName):
            with shelf.trial():
                self.changed(shelf)
                self.assertEqual(shown(shelf), ((), [], (), 5, 0))
                shelf.remove("now")
        self.assertEqual((shelf["now"], shelf.wishes), (PLAIN, (("now", ("share", "a", 9)),)))
        self.assertRaises(Broken, put, shelf, "now", WIDE)


if __name__ == "__main__":
    unittest.main()
