"""Promises 14 and 15 of stage 3: desks taken back, and trials of desks ([3], interface)."""

import unittest

from ringshares import errors
from ringshares.desks import Desk
from ringshares.errors import Broken, InvalidIndex, InvalidStep, InvalidWish, NothingToUndo
from tests.fate_models import JOIN, SETTLE, WHOLE
from tests.support import Numbers, plain_ring
from tests.test_desks import desk_of, shown
from tests.trial_rows import TrialRows

COPY = WHOLE[1]


def acts():
    """Returns changes of a desk, of which not every one can be done in each condition."""
    return (
        lambda desk: desk.do(JOIN), lambda desk: desk.do(SETTLE), lambda desk: desk.do(COPY),
        lambda desk: desk.do(("down", "a")), lambda desk: desk.do(("up", "a")), lambda desk: desk.do(("wipe", "b")),
        lambda desk: desk.do(("leave", "b")), lambda desk: desk.promise(("able",)), lambda desk: desk.promise(("racks", 1)),
        lambda desk: desk.promise(("calm",)), lambda desk: desk.lift(0), lambda desk: desk.lift(1),
    )


def done(desk, act):
    """Tells whether this change of a desk can be done, and does it then."""
    before = shown(desk)
    try:
        act(desk)
    except (errors.BadValue, errors.NoAnswer):
        assert shown(desk) == before
        return False
    return True


class Undone(unittest.TestCase):
    def test_doing_promising_and_lifting_one_by_one(self):
        desk = Desk(plain_ring())
        rows = [shown(desk)]
        for act in (lambda: desk.promise(("able",)), lambda: desk.do(JOIN), lambda: desk.promise(("safe",)),
                    lambda: desk.do(COPY), lambda: desk.lift(0), lambda: desk.lift(0), lambda: desk.do(SETTLE)):
            act()
            rows.append(shown(desk))
        for k in range(7, 0, -1):
            self.assertEqual((shown(desk), desk.changes), (rows[k], k))
            self.assertIsNone(desk.undo())
        self.assertEqual(shown(desk), rows[0])
        self.assertRaises(NothingToUndo, desk.undo)
        self.assertEqual(shown(desk), rows[0])

    def test_mixed_changes_against_a_row_of_conditions(self):
        numbers = Numbers(14)
        for _ in range(12):
            desk = Desk(plain_ring().ruled(1, 1, "with"))
            rows = [shown(desk)]
            for _ in range(60):
                if numbers.below(3) == 0:
                    if len(rows) > 1:
                        desk.undo()
                        rows.pop()
                    else:
                        self.assertRaises(NothingToUndo, desk.undo)
                else:
                    act = acts()[numbers.below(12)]
                    if done(desk, act):
                        rows.append(shown(desk))
                self.assertEqual((shown(desk), desk.changes), (rows[-1], len(rows) - 1))

    def test_refused_calls_are_no_changes(self):
        desk = desk_of(JOIN)
        desk.promise(("safe",))
        for error, call, value in (
            (InvalidStep, desk.do, JOIN), (Broken, desk.do, SETTLE), (InvalidWish, desk.promise, ("x",)),
            (Broken, desk.promise, ("calm",)), (InvalidIndex, desk.lift, 1), (InvalidIndex, desk.lift, None),
        ):
            self.assertRaises(error, call, value)
            self.assertEqual(desk.changes, 2)
        desk.undo()
        self.assertEqual((desk.promises, len(desk)), ((), 1))
        desk.undo()
        self.assertRaises(NothingToUndo, desk.undo)

    def test_what_is_taken_back_is_gone(self):
        desk = desk_of(JOIN, COPY)
        desk.undo()
        desk.do(SETTLE)
        desk.undo()
        self.assertEqual(desk.plan.steps, (JOIN,))
        desk.undo()
        self.assertRaises(NothingToUndo, desk.undo)

    def test_a_promise_that_was_lifted_holds_again(self):
        desk = desk_of(JOIN)
        desk.promise(("safe",))
        desk.lift(0)
        self.assertIsNone(desk.tried(lambda desk: desk.do(SETTLE)))
        desk.undo()
        desk.undo()
        self.assertEqual(desk.promises, (("safe",),))
        with self.assertRaises(Broken) as caught:
            desk.do(SETTLE)
        self.assertEqual(caught.exception.index, 0)

    def test_nothing_to_undo_of_its_own_class_and_base(self):
        with self.assertRaises(NothingToUndo) as caught:
            Desk(plain_ring()).undo()
        self.assertIs(caught.exception.__class__, NothingToUndo)
        self.assertTrue(issubclass(NothingToUndo, errors.NoAnswer))
        self.assertFalse(issubclass(NothingToUndo, (errors.BadValue, errors.BadName)))

    def test_many_changes(self):
        desk = Desk(plain_ring())
        for k in range(300):
            desk.promise(("calm",))
            desk.lift(0)
        self.assertEqual((desk.changes, desk.promises), (600, ()))
        for k in range(600):
            desk.undo()
        self.assertEqual((desk.changes, len(desk)), (0, 0))


class Trials(TrialRows, unittest.TestCase):
    def begun(self):
        desk = Desk(plain_ring())
        desk.promise(("able",))
        desk.do(JOIN)
        return desk

    def changed(self, desk):
        desk.do(COPY)
        desk.lift(0)
        desk.do(SETTLE)

    def little(self, desk):
        desk.promise(("racks", 1))

    def refused(self, desk):
        desk.promise(("racks", 5))

    def shown(self, desk):
        return shown(desk)

    def test_steps_promises_and_rings(self):
        desk = self.begun()
        with self.assertRaises(Broken) as caught:
            with desk.trial():
                self.changed(desk)
                self.assertEqual((desk.ring, desk.promises), (plain_ring().joined("d", "r2", (0,)), ()))
                desk.undo()
                desk.undo()
                desk.do(("down", "a"))
        self.assertEqual(caught.exception.index, 0)
        self.assertEqual((desk.ring, desk.promises, desk.plan.steps), (plain_ring(), (("able",),), (JOIN,)))
        with desk.trial():
            desk.do(COPY)
            self.assertRaises(Broken, desk.do, ("down", "a"))
        self.assertEqual((desk.plan.steps, desk.changes), ((JOIN, COPY), 3))


if __name__ == "__main__":
    unittest.main()
