"""Plans: a ring and the steps that lead it on, from moment to moment."""

from ringshares.basics import is_form_of, is_from_to, written_number
from ringshares.errors import (
    BadValue,
    InvalidMarks,
    InvalidMoment,
    InvalidName,
    InvalidStep,
    InvalidSteps,
    InvalidText,
    NoRoom,
    NotAPlan,
    UnknownName,
)
from ringshares.limits import MOST_STEPS
from ringshares.rings import Ring, check_point, check_ring

# A state is a triple: the ring that counts, the next ring or None, the names that are down.


def is_known(state, name):
    """Tells whether name is a host of the ring that counts or of the next one."""
    ring, coming, _ = state
    return name in ring or (coming is not None and name in coming)


def can_give(state, taker, giver):
    """Tells whether a host of the ring that counts can give to this other one."""
    ring, _, down = state
    return giver in ring and giver != taker and giver not in down and taker not in down


def behind_join(state, step):
    """Returns the state behind this step, None if it does not fit."""
    ring, coming, down = state
    _, name, rack, marks = step
    if coming is not None:
        return None
    try:
        return (ring, ring.joined(name, rack, marks), down)
    except (InvalidName, InvalidMarks, NoRoom):
        return None


def behind_leave(state, step):
    """Returns the state behind this step, None if it does not fit."""
    ring, coming, down = state
    if coming is not None:
        return None
    try:
        return (ring, ring.left(step[1]), down)
    except (UnknownName, NoRoom):
        return None


def behind_copy(state, step):
    """Returns the state behind this step, None if it does not fit."""
    _, coming, _ = state
    _, taker, giver = step
    if coming is None or taker not in coming or not can_give(state, taker, giver):
        return None
    return state


def behind_settle(state, step):
    """Returns the state behind this step, None if it does not fit."""
    _, coming, down = state
    if coming is None:
        return None
    return (coming, None, tuple([name for name in down if name in coming]))


def behind_down(state, step):
    """Returns the state behind this step, None if it does not fit."""
    ring, coming, down = state
    if not is_known(state, step[1]) or step[1] in down:
        return None
    return (ring, coming, tuple(sorted(down + step[1:])))


def behind_up(state, step):
    """Returns the state behind this step, None if it does not fit."""
    ring, coming, down = state
    if not is_known(state, step[1]) or step[1] not in down:
        return None
    return (ring, coming, tuple([name for name in down if name != step[1]]))


def behind_wipe(state, step):
    """Returns the state behind this step, None if it does not fit."""
    if not is_known(state, step[1]):
        return None
    return state


def behind_repair(state, step):
    """Returns the state behind this step, None if it does not fit."""
    _, taker, giver = step
    if taker not in state[0] or not can_give(state, taker, giver):
        return None
    return state


FORMS = (
    ("join", 4), ("leave", 2), ("copy", 3), ("settle", 1), ("down", 2), ("up", 2), ("wipe", 2), ("repair", 3),
)
ACTIONS = {
    "join": behind_join,
    "leave": behind_leave,
    "copy": behind_copy,
    "settle": behind_settle,
    "down": behind_down,
    "up": behind_up,
    "wipe": behind_wipe,
    "repair": behind_repair,
}


def behind(state, step):
    """Returns the state behind a step, whatever it is, None if it does not fit."""
    if not is_form_of(step, FORMS):
        return None
    action = ACTIONS[step[0]]
    return action(state, step)


def states_of(ring, steps):
    """Returns the states at all moments of a plan, the first one ahead of its steps."""
    if not isinstance(steps, tuple):
        raise InvalidSteps(None)
    states = [(ring, None, ())]
    for index, step in enumerate(steps):
        state = behind(states[index], step)
        if index == MOST_STEPS or state is None:
            raise InvalidSteps(index)
        states.append(state)
    return tuple(states)


def step_row(step):
    """Returns the row of a text that writes this step."""
    if step[0] != "join":
        return " ".join(list(step))
    return " ".join(list(step[:3]) + [str(mark) for mark in step[3]])


def written_step(row):
    """Returns what a row of a text writes as a step; it may be one that does not fit."""
    words = row.split(" ")
    if words[0] != "join":
        return tuple(words)
    return tuple(words[:3]) + (tuple([written_number(word) for word in words[3:]]),)


class Plan:
    """A ring with a row of steps that fit; it never changes."""

    def __init__(self, ring, steps=()):
        check_ring(ring)
        self._states = states_of(ring, steps)
        self._ring = ring
        self._steps = steps

    @classmethod
    def read(cls, text):
        """Returns the plan with this text."""
        if not isinstance(text, str):
            raise InvalidText(text)
        rows = text.split("\n")
        if "plan" not in rows:
            raise InvalidText(text)
        # No row of a ring and no step is this word, so the first one parts them.
        at = rows.index("plan")
        try:
            ring = Ring.read("\n".join(rows[:at]))
            return cls(ring, tuple([written_step(row) for row in rows[at + 1:]]))
        except BadValue:
            raise InvalidText(text) from None

    @property
    def ring(self):
        """The ring with which the plan begins."""
        return self._ring

    @property
    def steps(self):
        """The steps as they were passed."""
        return self._steps

    def __len__(self):
        return len(self._steps)

    def __bool__(self):
        # A plan without steps is true as well, whatever its length.
        return True

    def __str__(self):
        return "\n".join([str(self._ring), "plan"] + [step_row(step) for step in self._steps])

    def __eq__(self, other):
        return (
            isinstance(other, Plan)
            and self._ring == other._ring
            and self._steps == other._steps
        )

    def counting(self, moment):
        """Returns the ring that counts at this moment."""
        return self._state(moment)[0]

    def coming(self, moment):
        """Returns the next ring at this moment, None without one."""
        return self._state(moment)[1]

    def fallen(self, moment):
        """Returns the names of the hosts that are down at this moment, ascending."""
        return self._state(moment)[2]

    def keepers(self, point, moment):
        """Returns the names of the keepers of this key at this moment, in their order."""
        check_point(self._ring, point)
        ring = self.counting(moment)
        return ring.keepers(point)

    def pendings(self, point, moment):
        """Returns the names of the pendings of this key at this moment, in their order."""
        check_point(self._ring, point)
        ring, coming, _ = self._state(moment)
        if coming is None:
            return ()
        keepers = ring.keepers(point)
        return tuple([name for name in coming.keepers(point) if name not in keepers])

    def then(self, step):
        """Returns the plan with this step more."""
        try:
            return Plan(self._ring, self._steps + (step,))
        except InvalidSteps:
            raise InvalidStep(step) from None

    def _state(self, moment):
        if not is_from_to(moment, 0, len(self._steps)):
            raise InvalidMoment(moment)
        return self._states[moment]


def check_plan(plan):
    """Raises NotAPlan if this is no plan."""
    if not isinstance(plan, Plan):
        raise NotAPlan(plan)
