"""Shelves: rings under names, with wishes that hold behind each change."""

from ringshares.basics import is_form_of, is_from_to, is_name, is_word_of
from ringshares.errors import Broken, InUse, InvalidIndex, InvalidName, InvalidWish, UnknownName
from ringshares.likeness import alike, kin
from ringshares.mends import is_wish_for_ring, stands
from ringshares.rings import check_ring
from ringshares.trials import History, Trial

PAIR_WISHES = (("alike", 3), ("kin", 3))

# A condition of a shelf is a pair: a dict of the rings under their names, and the wishes. The
# dict is never changed: each change makes a new one.


def is_wish_for_shelf(value):
    """Tells whether value has the form of a wish for a shelf, whatever stands there."""
    if is_form_of(value, PAIR_WISHES):
        return is_name(value[1]) and is_name(value[2])
    if not isinstance(value, tuple) or len(value) != 2:
        return False
    return is_name(value[0]) and is_wish_for_ring(value[1])


def names_in(wish):
    """Returns the names of the rings that a wish for a shelf is about, in their order."""
    return wish[:1] if len(wish) == 2 else wish[1:]


def is_kept(rings, wish):
    """Tells whether a wish for a shelf with these rings holds."""
    if len(wish) == 2:
        return stands(rings[wish[0]], wish[1])
    one, other = [rings[name] for name in names_in(wish)]
    if one.points != other.points:
        return False
    return alike(one, other) if wish[0] == "alike" else kin(one, other)


class Shelf:
    """Rings under names, and what is wished of them."""

    def __init__(self):
        self._history = History(({}, ()))

    @property
    def names(self):
        """The names under which rings stand, ascending."""
        return tuple(sorted(list(self._history.rows[-1][0])))

    @property
    def wishes(self):
        """The wishes, in their order."""
        return self._history.rows[-1][1]

    @property
    def changes(self):
        """How many changes can be taken back."""
        return len(self._history.rows) - 1

    def __len__(self):
        return len(self._history.rows[-1][0])

    def __bool__(self):
        # A shelf without rings is true as well, whatever its length.
        return True

    def __eq__(self, other):
        # Each shelf has a history of its own, so it is equal to itself alone.
        return isinstance(other, Shelf) and self._history == other._history

    def __contains__(self, x):
        return is_word_of(x, self.names)

    def __iter__(self):
        raise TypeError("a shelf is not iterated over")

    def __getitem__(self, at):
        if at not in self:
            raise UnknownName(at)
        return self._history.rows[-1][0][at]

    def __setitem__(self, at, worth):
        if not is_name(at):
            raise InvalidName(at)
        check_ring(worth)
        rings = self._rings()
        rings[at] = worth
        for index, wish in enumerate(self.wishes):
            # Wishes about other rings hold as they did.
            if at in names_in(wish) and not is_kept(rings, wish):
                raise Broken(index)
        self._history.go_on((rings, self.wishes))

    def remove(self, name):
        """Takes the ring with this name away."""
        if name not in self:
            raise UnknownName(name)
        for index, wish in enumerate(self.wishes):
            if name in names_in(wish):
                raise InUse(index)
        rings = self._rings()
        del rings[name]
        self._history.go_on((rings, self.wishes))

    def wish(self, wish):
        """Puts a wish behind the others."""
        if not is_wish_for_shelf(wish):
            raise InvalidWish(wish)
        for name in names_in(wish):
            if name not in self:
                raise UnknownName(name)
        rings = self._rings()
        if not is_kept(rings, wish):
            raise Broken(len(self.wishes))
        self._history.go_on((rings, self.wishes + (wish,)))

    def lift(self, index):
        """Takes a wish away."""
        wishes = self.wishes
        if not is_from_to(index, 0, len(wishes) - 1):
            raise InvalidIndex(index)
        self._history.go_on((self._rings(), wishes[:index] + wishes[index + 1:]))

    def undo(self):
        """Takes back the last change that is not taken back yet."""
        self._history.go_back()

    def trial(self):
        """Returns what makes a trial of the rows of a with statement."""
        return Trial(self, self._history)

    def tried(self, action):
        """Calls the function with the shelf in a trial, and returns what it returns."""
        with self.trial() as shelf:
            return action(shelf)

    def _rings(self):
        # A copy: the dict of a condition is never changed.
        return dict(self._history.rows[-1][0])
