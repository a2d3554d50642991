"""What the tests of trials share, of desks and of shelves ([3], interface)."""

from ringshares.errors import Broken, NothingToUndo

LOTS_OF_STOPS = ((), (1,), (2,), (3,), (1, 2), (2, 3), (1, 3), (1, 2, 3))


class Stopped(Exception):
    """What ends the rows of some trials."""


class Halted(BaseException):
    """What ends the rows of some trials and is no Exception."""


def stop(held):
    raise Stopped


class TrialRows:
    """Tests of trials of what a class of tests makes.

    It has the methods begun(), which makes a desk or a shelf with two changes; changed(held), which
    makes three more; little(held), which makes one in any condition; refused(held), which raises
    Broken in any condition behind begun(); shown(held), all that is to be seen of it.
    """

    def ends_with(self, ending):
        def action(held):
            self.changed(held)
            raise ending()
        return action

    def test_rows_that_end_with_an_exception(self):
        for ending in (Stopped, Halted, KeyboardInterrupt, GeneratorExit, NothingToUndo, ValueError):
            held = self.begun()
            before = self.shown(held)
            error = ending()
            with self.assertRaises(ending) as caught:
                with held.trial() as same:
                    self.assertIs(same, held)
                    self.changed(held)
                    self.assertEqual(held.changes, 5)
                    raise error
            self.assertIs(caught.exception, error)
            self.assertEqual(self.shown(held), before)
            with self.assertRaises(ending):
                held.tried(action=self.ends_with(ending))
            self.assertEqual(self.shown(held), before)

    def test_rows_that_end_otherwise(self):
        held, other = self.begun(), self.begun()
        self.changed(other)
        with held.trial():
            self.changed(held)
        self.assertEqual(self.shown(held), self.shown(other))
        self.assertEqual(self.returned_from(self.begun()), self.shown(other))
        held = self.begun()
        for k in range(3):
            with held.trial():
                if k == 1:
                    break
                self.little(held)
        self.assertEqual(held.changes, 3)

    def returned_from(self, held):
        with held.trial() as same:
            self.changed(same)
            return self.shown(held)

    def test_tried_returns_what_the_function_returns(self):
        held = self.begun()
        before = self.shown(held)
        for value in (None, 0, (), held, "x", Stopped):
            self.assertIs(held.tried(lambda same: value), value)
            self.assertIs(held.tried(action=lambda same: value), value)
        self.assertIs(held.tried(lambda same: same), held)
        self.assertEqual(self.shown(held), before)
        self.assertEqual(held.tried(len), len(held))
        self.assertEqual(held.tried(lambda same: self.little(same) or same.changes), 3)

    def test_a_refused_call_that_ends_the_rows(self):
        held = self.begun()
        before = self.shown(held)
        with self.assertRaises(Broken):
            with held.trial():
                self.little(held)
                self.refused(held)
        self.assertEqual(self.shown(held), before)
        with held.trial():
            self.little(held)
            self.assertRaises(Broken, self.refused, held)
        self.assertEqual(held.changes, 3)

    def test_undo_goes_back_behind_the_beginning(self):
        held = self.begun()
        before = self.shown(held)
        with self.assertRaises(Stopped):
            with held.trial():
                held.undo()
                held.undo()
                self.assertRaises(NothingToUndo, held.undo)
                self.little(held)
                raise Stopped
        self.assertEqual(self.shown(held), before)
        with held.trial():
            held.undo()
            held.undo()
            self.little(held)
        self.assertEqual(held.changes, 1)
        held.undo()
        self.assertRaises(NothingToUndo, held.undo)

    def test_undo_behind_a_trial(self):
        held = self.begun()
        before = self.shown(held)
        held.tried(self.changed)
        for _ in range(3):
            held.undo()
        self.assertEqual(self.shown(held), before)
        self.assertRaises(Stopped, held.tried, self.ends_with(Stopped))
        held.undo()
        held.undo()
        self.assertEqual(held.changes, 0)

    def nested(self, held, trials, stops, rows):
        """Makes trials within trials; those whose depth is among the stops end with an exception."""
        if not trials:
            return
        depth = 4 - len(trials)
        rows.append(self.shown(held))
        try:
            with trials[0] as same:
                self.little(same)
                self.nested(held, trials[1:], stops, rows)
                self.little(same)
                if depth in stops:
                    raise Stopped
        except Stopped:
            self.assertEqual(self.shown(held), rows[depth - 1])

    def test_three_deep(self):
        for stops in LOTS_OF_STOPS:
            for same in (False, True):
                held = self.begun()
                one = held.trial()
                trials = [one, one, one] if same else [one, held.trial(), held.trial()]
                self.nested(held, trials, stops, [])
                kept = 0
                for depth in (3, 2, 1):
                    kept = 0 if depth in stops else kept + 2
                self.assertEqual(held.changes, 2 + kept)

    def test_an_exception_through_all_of_them(self):
        held = self.begun()
        before = self.shown(held)
        one = held.trial()
        with self.assertRaises(Stopped):
            with one:
                self.little(held)
                with one:
                    held.undo()
                    held.undo()
                    held.tried(stop)
        self.assertEqual(self.shown(held), before)

    def test_one_object_again_and_again(self):
        held = self.begun()
        one = held.trial()
        self.little(held)
        # It goes back to where the rows began, not to where the object was made.
        before = self.shown(held)
        with self.assertRaises(Stopped):
            with one:
                self.little(held)
                raise Stopped
        self.assertEqual(self.shown(held), before)
        with one:
            self.little(held)
        self.assertEqual(held.changes, 4)
        before = self.shown(held)
        with self.assertRaises(Stopped):
            with one:
                held.undo()
                raise Stopped
        self.assertEqual(self.shown(held), before)

    def test_another_one_stays_as_it_is(self):
        one, other = self.begun(), self.begun()
        before = self.shown(one)
        with self.assertRaises(Stopped):
            with one.trial():
                self.changed(other)
                self.little(one)
                raise Stopped
        self.assertEqual((self.shown(one), other.changes), (before, 5))
