"""What desks and shelves share: the conditions that they had, and trials that go back to one of them."""

from ringshares.errors import NothingToUndo


class History:
    """The conditions of a desk or a shelf, the first one ahead of all changes; a condition never changes."""

    def __init__(self, first):
        self.rows = (first,)

    def go_on(self, condition):
        """Puts a condition behind the others."""
        self.rows = self.rows + (condition,)

    def go_back(self):
        """Takes the last condition away."""
        if len(self.rows) == 1:
            raise NothingToUndo()
        self.rows = self.rows[:-1]


class Held:
    """The conditions at the beginning of a trial, and what the trial around it with the same object holds."""

    def __init__(self, rows, around):
        self.rows = rows
        self.around = around


class Trial:
    """What stands in a with statement: if its rows end with an exception, all is as when they began."""

    def __init__(self, owner, history):
        self.owner = owner
        self.history = history
        self.held = None

    def __enter__(self):
        self.held = Held(self.history.rows, self.held)
        return self.owner

    def __exit__(self, kind, value, trace):
        history = self.history
        if kind is not None:
            history.rows = self.held.rows
        self.held = self.held.around
