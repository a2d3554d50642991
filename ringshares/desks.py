"""Desks: rings that are led step by step, with promises that hold behind each change."""

from ringshares.basics import is_from_to
from ringshares.errors import Broken, InvalidIndex
from ringshares.mends import first_broken, holds
from ringshares.plans import Plan
from ringshares.trials import History, Trial

# A condition of a desk is a triple: the plan, the ring that counts at its end, the promises.


class Desk:
    """A ring with the steps that were done so far, and what is promised of them."""

    def __init__(self, ring):
        self._history = History((Plan(ring), ring, ()))

    @property
    def plan(self):
        """The plan with the steps that were done."""
        return self._history.rows[-1][0]

    @property
    def ring(self):
        """The ring that counts at the end."""
        return self._history.rows[-1][1]

    @property
    def promises(self):
        """The promises, in their order."""
        return self._history.rows[-1][2]

    @property
    def changes(self):
        """How many changes can be taken back."""
        return len(self._history.rows) - 1

    def __len__(self):
        return len(self._history.rows[-1][0])

    def __bool__(self):
        # A desk without steps is true as well, whatever its length.
        return True

    def __eq__(self, other):
        # Each desk has a history of its own, so it is equal to itself alone.
        return isinstance(other, Desk) and self._history == other._history

    def do(self, step):
        """Puts a step behind the others."""
        plan = self.plan.then(step)
        index = first_broken(plan, self.promises)
        if index is not None:
            raise Broken(index)
        self._change(plan, self.promises)

    def promise(self, wish):
        """Puts a promise behind the others."""
        if not holds(self.plan, wish):
            raise Broken(len(self.promises))
        self._change(self.plan, self.promises + (wish,))

    def lift(self, index):
        """Takes a promise away."""
        promises = self.promises
        if not is_from_to(index, 0, len(promises) - 1):
            raise InvalidIndex(index)
        self._change(self.plan, promises[:index] + promises[index + 1:])

    def undo(self):
        """Takes back the last change that is not taken back yet."""
        self._history.go_back()

    def trial(self):
        """Returns what makes a trial of the rows of a with statement."""
        return Trial(self, self._history)

    def tried(self, action):
        """Calls the function with the desk in a trial, and returns what it returns."""
        with self.trial() as desk:
            return action(desk)

    def _change(self, plan, promises):
        self._history.go_on((plan, plan.counting(len(plan)), promises))
