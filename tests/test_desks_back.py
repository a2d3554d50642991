"""Promises 14 and 15 of stage 3: desks taken back, and trials of desks ([3], interface)."""

import unittest

from ringshares import errors
from ringshares.desks import Desk
from ringshares.errors import Broken, InvalidIndex, InvalidStep, InvalidWish, NothingToUndo
from tests.fate_models import JOIN, SETTLE, WHOLE
from tests.support import Numbers, plain_ring
from tests.test_desks import desk_of, shown

COPY = WHOLE[1]


class Stopped(Exception):
    """What ends the rows of some trials."""


class Halted(BaseException):
    """What ends the rows of some trials and is no Exception."""


def stop(desk):
    raise Stopped


def acts():
    """Returns changes of a desk, of which not every one can be done in each condition."""
    return (
        lambda desk: desk.do(JOIN), lambda desk: desk.do(SETTLE), lambda desk: desk.do(COPY),
        lambda desk: desk.do(("down", "a")), lambda desk: desk.do(("up", "a")), lambda desk: desk.do(("wipe", "b")),
        lambda desk: desk.do(("leave", "b")), lambda desk: desk.promise(("able",)), lambda desk: desk.promise(("racks", 1)),
        lambda desk: desk.promise(("calm",)), lambda desk: desk.lift(0), lambda desk: desk.lift(1),
    )


def done(desk, act):
    """Tells whether this change of a desk can be done, and does it then."""
    before = shown(desk)
    try:
        act(desk)
    except (errors.BadValue, errors.NoAnswer):
        assert shown(desk) == before
        return False
    return True


class Undone(unittest.TestCase):
    def test_doing_promising_and_lifting_one_by_one(self):
        desk = Desk(plain_ring())
        rows = [shown(desk)]
        for act in (lambda: desk.promise(("able",)), lambda: desk.do(JOIN), lambda: desk.promise(("safe",)),
                    lambda: desk.do(COPY), lambda: desk.lift(0), lambda: desk.lift(0), lambda: desk.do(SETTLE)):
            act()
            rows.append(shown(desk))
        for k in range(7, 0, -1):
            self.assertEqual((shown(desk), desk.changes), (rows[k], k))
            self.assertIsNone(desk.undo())
        self.assertEqual(shown(desk), rows[0])
        self.assertRaises(NothingToUndo, desk.undo)
        self.assertEqual(shown(desk), rows[0])

    def test_mixed_changes_against_a_row_of_conditions(self):
        numbers = Numbers(14)
        for _ in range(12):
            desk = Desk(plain_ring().ruled(1, 1, "with"))
            rows = [shown(desk)]
            for _ in range(60):
                if numbers.below(3) == 0:
                    if len(rows) > 1:
                        desk.undo()
                        rows.pop()
                    else:
                        self.assertRaises(NothingToUndo, desk.undo)
                else:
                    act = acts()[numbers.below(12)]
                    if done(desk, act):
                        rows.append(shown(desk))
                self.assertEqual((shown(desk), desk.changes), (rows[-1], len(rows) - 1))

    def test_refused_calls_are_no_changes(self):
        desk = desk_of(JOIN)
        desk.promise(("safe",))
        for error, call, value in (
            (InvalidStep, desk.do, JOIN), (Broken, desk.do, SETTLE), (InvalidWish, desk.promise, ("x",)),
            (Broken, desk.promise, ("calm",)), (InvalidIndex, desk.lift, 1), (InvalidIndex, desk.lift, None),
        ):
            self.assertRaises(error, call, value)
            self.assertEqual(desk.changes, 2)
        desk.undo()
        self.assertEqual((desk.promises, len(desk)), ((), 1))
        desk.undo()
        self.assertRaises(NothingToUndo, desk.undo)

    def test_what_is_taken_back_is_gone(self):
        desk = desk_of(JOIN, COPY)
        desk.undo()
        desk.do(SETTLE)
        desk.undo()
        self.assertEqual(desk.plan.steps, (JOIN,))
        desk.undo()
        self.assertRaises(NothingToUndo, desk.undo)

    def test_a_promise_that_was_lifted_holds_again(self):
        desk = desk_of(JOIN)
        desk.promise(("safe",))
        desk.lift(0)
        self.assertIsNone(desk.tried(lambda desk: desk.do(SETTLE)))
        desk.undo()
        desk.undo()
        self.assertEqual(desk.promises, (("safe",),))
        with self.assertRaises(Broken) as caught:
            desk.do(SETTLE)
        self.assertEqual(caught.exception.index, 0)

    def test_nothing_to_undo_of_its_own_class_and_base(self):
        with self.assertRaises(NothingToUndo) as caught:
            Desk(plain_ring()).undo()
        self.assertIs(caught.exception.__class__, NothingToUndo)
        self.assertTrue(issubclass(NothingToUndo, errors.NoAnswer))
        self.assertFalse(issubclass(NothingToUndo, (errors.BadValue, errors.BadName)))

    def test_many_changes(self):
        desk = Desk(plain_ring())
        for k in range(300):
            desk.promise(("calm",))
            desk.lift(0)
        self.assertEqual((desk.changes, desk.promises), (600, ()))
        for k in range(600):
            desk.undo()
        self.assertEqual((desk.changes, len(desk)), (0, 0))


class Trials(unittest.TestCase):
    def changed(self, desk):
        desk.do(COPY)
        desk.lift(0)
        desk.do(SETTLE)

    def begun(self):
        """Returns a desk with a promise, a step and its condition."""
        desk = Desk(plain_ring())
        desk.promise(("able",))
        desk.do(JOIN)
        return desk, shown(desk)

    def test_rows_that_end_with_an_exception(self):
        for ending in (Stopped, Halted, KeyboardInterrupt, GeneratorExit, NothingToUndo, ValueError):
            desk, before = self.begun()
            error = ending()
            with self.assertRaises(ending) as caught:
                with desk.trial() as same:
                    self.assertIs(same, desk)
                    self.changed(desk)
                    self.assertEqual(desk.changes, 5)
                    raise error
            self.assertIs(caught.exception, error)
            self.assertEqual(shown(desk), before)
            with self.assertRaises(ending):
                desk.tried(action=self.ends_with(ending))
            self.assertEqual(shown(desk), before)

    def ends_with(self, ending):
        def action(desk):
            self.changed(desk)
            raise ending()
        return action

    def test_rows_that_end_otherwise(self):
        desk, _ = self.begun()
        other, _ = self.begun()
        self.changed(other)
        with desk.trial():
            self.changed(desk)
        self.assertEqual(shown(desk), shown(other))
        self.assertEqual(self.returned_from(self.begun()[0]), shown(other))
        desk, _ = self.begun()
        for k in range(3):
            with desk.trial():
                if k == 1:
                    break
                desk.promise(("racks", 1))
        self.assertEqual(desk.changes, 3)

    def returned_from(self, desk):
        with desk.trial() as same:
            self.changed(same)
            return shown(desk)

    def test_tried_returns_what_the_function_returns(self):
        desk, before = self.begun()
        for value in (None, 0, (), desk, "x", Stopped):
            self.assertIs(desk.tried(lambda same: value), value)
            self.assertIs(desk.tried(action=lambda same: value), value)
        self.assertIs(desk.tried(lambda same: same), desk)
        self.assertEqual(shown(desk), before)
        self.assertEqual(desk.tried(len), 1)
        self.assertEqual(desk.tried(lambda same: same.do(COPY) or same.changes), 3)

    def test_a_refused_call_that_ends_the_rows(self):
        desk, before = self.begun()
        with self.assertRaises(Broken) as caught:
            with desk.trial():
                desk.do(COPY)
                desk.do(("down", "a"))
        self.assertEqual((caught.exception.index, shown(desk)), (0, before))
        with desk.trial():
            desk.do(COPY)
            self.assertRaises(Broken, desk.do, ("down", "a"))
        self.assertEqual(desk.changes, 3)

    def test_undo_goes_back_behind_the_beginning(self):
        desk, before = self.begun()
        with self.assertRaises(Stopped):
            with desk.trial():
                desk.undo()
                desk.undo()
                self.assertRaises(NothingToUndo, desk.undo)
                desk.do(("wipe", "a"))
                raise Stopped
        self.assertEqual(shown(desk), before)
        with desk.trial():
            desk.undo()
            desk.undo()
            desk.do(("wipe", "a"))
        self.assertEqual((desk.plan.steps, desk.promises, desk.changes), ((("wipe", "a"),), (), 1))
        desk.undo()
        self.assertRaises(NothingToUndo, desk.undo)

    def test_undo_behind_a_trial(self):
        desk, before = self.begun()
        desk.tried(self.changed)
        for _ in range(3):
            desk.undo()
        self.assertEqual(shown(desk), before)
        self.assertRaises(Stopped, desk.tried, self.ends_with(Stopped))
        desk.undo()
        self.assertEqual((len(desk), desk.changes), (0, 1))

    def nested(self, desk, trials, stops, rows):
        """Makes trials within trials; those whose depth is among the stops end with an exception."""
        if not trials:
            return
        depth = 4 - len(trials)
        rows.append(shown(desk))
        try:
            with trials[0] as same:
                same.promise(("racks", 1))
                self.nested(desk, trials[1:], stops, rows)
                same.promise(("racks", 1))
                if depth in stops:
                    raise Stopped
        except Stopped:
            self.assertEqual(shown(desk), rows[depth - 1])

    def test_three_deep(self):
        for stops in ((), (1,), (2,), (3,), (1, 2), (2, 3), (1, 3), (1, 2, 3)):
            for same in (False, True):
                desk, before = self.begun()
                one = desk.trial()
                trials = [one, one, one] if same else [one, desk.trial(), desk.trial()]
                self.nested(desk, trials, stops, [])
                kept = 0
                for depth in (3, 2, 1):
                    kept = 0 if depth in stops else kept + 2
                self.assertEqual(desk.changes, before[3] + kept)
                self.assertEqual(len(desk.promises), 1 + kept)

    def test_an_exception_through_all_of_them(self):
        desk, before = self.begun()
        one = desk.trial()
        with self.assertRaises(Stopped):
            with one:
                desk.do(COPY)
                with one:
                    desk.undo()
                    desk.undo()
                    desk.tried(stop)
        self.assertEqual(shown(desk), before)

    def test_one_object_again_and_again(self):
        desk, before = self.begun()
        one = desk.trial()
        desk.promise(("safe",))
        with self.assertRaises(Stopped):
            with one:
                desk.do(COPY)
                raise Stopped
        # It goes back to where the rows began, not to where the object was made.
        self.assertEqual((desk.changes, len(desk.promises)), (before[3] + 1, 2))
        with one:
            desk.do(COPY)
        self.assertEqual(desk.changes, before[3] + 2)
        with self.assertRaises(Stopped):
            with one:
                desk.do(("wipe", "d"))
                raise Stopped
        self.assertEqual(desk.plan.steps, (JOIN, COPY))

    def test_another_desk_stays_as_it_is(self):
        one, before = self.begun()
        other, _ = self.begun()
        with self.assertRaises(Stopped):
            with one.trial():
                other.do(COPY)
                one.do(COPY)
                raise Stopped
        self.assertEqual((shown(one), other.plan.steps), (before, (JOIN, COPY)))


if __name__ == "__main__":
    unittest.main()
