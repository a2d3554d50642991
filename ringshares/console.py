"""The console: a desk that is led by lines."""

from ringshares.basics import is_form_of, is_name, written_number
from ringshares.cells import kept
from ringshares.desks import Desk
from ringshares.errors import (
    Broken,
    InvalidIndex,
    InvalidPoint,
    InvalidStep,
    InvalidText,
    NothingToUndo,
    UnknownName,
)
from ringshares.mends import holds
from ringshares.plans import FORMS, step_row, written_step

LONE = ("undo", "hosts", "safe", "able", "calm", "plan")
PROMISED = ("safe", "able")


def said_step(rest):
    """Returns the step that the rest of a line tells, which need not fit, None if it tells none."""
    step = written_step(rest)
    if not is_form_of(step, FORMS):
        return None
    names = step[1:]
    if step[0] == "join":
        names = step[1:3]
        # A word that writes no number is None among the marks.
        if len(step[3]) == 0 or None in step[3]:
            return None
    return step if all([is_name(name) for name in names]) else None


def said_promise(rest):
    """Returns the wish that the rest of a line tells, None if it tells none."""
    return (rest,) if rest in PROMISED else None


def said_number(rest):
    """Returns the integer that the rest of a line tells, None if it tells none."""
    return written_number(rest)


def said_name(rest):
    """Returns the name that the rest of a line tells, None if it tells none."""
    return rest if is_name(rest) else None


READERS = {
    "do": said_step, "promise": said_promise, "lift": said_number, "keepers": said_number, "share": said_name,
}


def deed_in(line):
    """Returns the word of a line and the value that it tells behind it, None if this is no such line."""
    if not isinstance(line, str):
        return None
    if line in LONE:
        return (line, (line,))
    word, _, rest = line.partition(" ")
    if word not in READERS:
        return None
    reader = READERS[word]
    value = reader(rest)
    return None if value is None else (word, value)


def answer_do(desk, step):
    """Does a step at the desk."""
    desk.do(step)
    return "ok"


def answer_undo(desk, _):
    """Takes back the last change of the desk."""
    desk.undo()
    return "ok"


def answer_promise(desk, wish):
    """Makes a promise at the desk."""
    desk.promise(wish)
    return "ok"


def answer_lift(desk, index):
    """Takes away a promise of the desk."""
    desk.lift(index)
    return "ok"


def answer_keepers(desk, point):
    """Tells the keepers of this key at the end."""
    return " ".join(desk.ring.keepers(point))


def answer_share(desk, name):
    """Tells how many keys the host keeps at the end."""
    return str(kept(desk.ring, name))


def answer_hosts(desk, _):
    """Tells the names of the hosts at the end."""
    return " ".join(desk.ring.names)


def answer_wish(desk, wish):
    """Tells whether this wish holds for the plan."""
    return "yes" if holds(desk.plan, wish) else "no"


def answer_plan(desk, _):
    """Tells the steps of the plan."""
    return " / ".join([step_row(step) for step in desk.plan.steps]) or "none"


ACTIONS = {
    "do": answer_do,
    "undo": answer_undo,
    "promise": answer_promise,
    "lift": answer_lift,
    "keepers": answer_keepers,
    "share": answer_share,
    "hosts": answer_hosts,
    "safe": answer_wish,
    "able": answer_wish,
    "calm": answer_wish,
    "plan": answer_plan,
}


class Console:
    """A desk that does what lines say, and answers by strings."""

    def __init__(self, ring):
        self._desk = Desk(ring)

    @property
    def desk(self):
        """The desk that the lines lead."""
        return self._desk

    def __eq__(self, other):
        # Each console has a desk of its own, so it is equal to itself alone.
        return isinstance(other, Console) and self._desk == other._desk

    def say(self, line):
        """Does or answers what the line says."""
        deed = deed_in(line)
        if deed is None:
            raise InvalidText(line)
        word, value = deed
        action = ACTIONS[word]
        try:
            return action(self._desk, value)
        except InvalidStep:
            return "InvalidStep"
        except InvalidIndex:
            return "InvalidIndex"
        except InvalidPoint:
            return "InvalidPoint"
        except UnknownName:
            return "UnknownName"
        except NothingToUndo:
            return "NothingToUndo"
        except Broken:
            return "Broken"
