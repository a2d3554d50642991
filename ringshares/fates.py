"""Fates: who takes a write, who has it later, and whether some key can lose one or comes to a halt."""

from ringshares.basics import is_from_to, is_lot_of, lots
from ringshares.cells import all_marks, keepers_at
from ringshares.errors import InvalidMoment, InvalidTakers
from ringshares.plans import check_plan

# A course is a tuple with a scene for each moment of a plan, as one key sees it: the pair of the
# names of its keepers and of its pendings, both ascending.


def scene_of(plan, point, moment):
    """Returns the scene of this key at this moment."""
    return (tuple(sorted(plan.keepers(point, moment))), tuple(sorted(plan.pendings(point, moment))))


def course_of(plan, point):
    """Returns the course of this key."""
    return tuple([scene_of(plan, point, moment) for moment in range(len(plan) + 1)])


def scenes_of(keepers_rows, coming_rows):
    """Returns the scenes of the keys of some cells, of their keepers by this ring and the next one."""
    return [
        (tuple(sorted(keepers)), tuple(sorted([name for name in coming if name not in keepers])))
        for keepers, coming in zip(keepers_rows, coming_rows)
    ]


def rings_at(plan, moment):
    """Returns the ring that counts at this moment and the next one, without one the ring that counts again."""
    ring = plan.counting(moment)
    coming = plan.coming(moment)
    return (ring, ring if coming is None else coming)


def courses(plan):
    """Returns the pairs of a key and its course, each course that keys have once."""
    pairs = [rings_at(plan, moment) for moment in range(len(plan) + 1)]
    rings = {str(ring): ring for pair in pairs for ring in pair}
    marks = all_marks([host for ring in rings.values() for host in ring.hosts])
    rows = {text: keepers_at(ring, marks) for text, ring in rings.items()}
    scenes = [scenes_of(rows[str(ring)], rows[str(coming)]) for ring, coming in pairs]
    key_of = {}
    for at, mark in enumerate(marks):
        key_of.setdefault(tuple([row[at] for row in scenes]), mark)
    return [(key, course) for course, key in key_of.items()]


def wanted_in(plan, scene, moment):
    """Returns how many have to take a write in this scene of the moment, and those who can, ascending."""
    keepers, pendings = scene
    names = keepers
    many = plan.ring.write
    if plan.ring.pending == "with":
        names = keepers + pendings
        many = many + len(pendings)
    down = plan.fallen(moment)
    return (many, tuple(sorted([name for name in names if name not in down])))


def asked_in(plan, scene, moment):
    """Returns how many answer a read in this scene of the moment, and those who can, ascending."""
    down = plan.fallen(moment)
    return (plan.ring.read_number, tuple([name for name in scene[0] if name not in down]))


def held_behind(step, scene, held):
    """Returns who has a write behind a step, which leads to this scene, if these had it, ascending."""
    keepers, pendings = scene
    if step[0] == "settle":
        return tuple([name for name in held if name in keepers])
    if step[0] == "wipe":
        return tuple([name for name in held if name != step[1]])
    if step[0] in ("copy", "repair"):
        # These two leave the scene as it was.
        _, taker, giver = step
        takers = pendings if step[0] == "copy" else keepers
        if taker in takers and giver in keepers and giver in held and taker not in held:
            return tuple(sorted(held + (taker,)))
    return held


def wanted(plan, point, moment):
    """Returns how many have to take a write of this key, and the names of those who can, ascending."""
    check_plan(plan)
    return wanted_in(plan, scene_of(plan, point, moment), moment)


def asked(plan, point, moment):
    """Returns how many answer a read of this key, and the names of those who can, ascending."""
    check_plan(plan)
    return asked_in(plan, scene_of(plan, point, moment), moment)


def holders(plan, point, moment, names, until):
    """Returns the names of those who have a write later on if these took it, ascending."""
    many, able = wanted(plan, point, moment)
    if not is_lot_of(names, many, able):
        raise InvalidTakers(names)
    if not is_from_to(until, moment, len(plan)):
        raise InvalidMoment(until)
    course = course_of(plan, point)
    held = names
    for at in range(moment, until):
        held = held_behind(plan.steps[at], course[at + 1], held)
    return held


def unseen(plan, scene, moment, writes):
    """Returns the takers of a write that a read in this scene can miss, and who answers, None if it sees all.

    The writes are a dict from those who have one to the pair of its moment and its takers.
    """
    many, names = asked_in(plan, scene, moment)
    for held, (begun, takers) in writes.items():
        others = [name for name in names if name not in held]
        if len(others) >= many:
            return (begun, takers, moment, tuple(others[:many]))
    return None


def loss_in(plan, course):
    """Returns a case of loss of the keys of this course, but for the key, None if there is none."""
    writes = {}
    for moment, scene in enumerate(course):
        if moment > 0:
            step = plan.steps[moment - 1]
            # Two writes that the same hosts have now fare alike from here on: one of them is enough.
            writes = {held_behind(step, scene, held): write for held, write in writes.items()}
        many, able = wanted_in(plan, scene, moment)
        for takers in lots(able, many):
            writes.setdefault(takers, (moment, takers))
        case = unseen(plan, scene, moment, writes)
        if case is not None:
            return case
    return None


def lost(plan):
    """Returns a case of loss, None if the plan is safe."""
    check_plan(plan)
    for key, course in courses(plan):
        case = loss_in(plan, course)
        if case is not None:
            return (key,) + case
    return None


def lost_at(plan, point):
    """Returns a case of loss of this key, None if it has none."""
    check_plan(plan)
    case = loss_in(plan, course_of(plan, point))
    return None if case is None else (point,) + case


def is_safe(plan):
    """Tells whether no key can have a lost write."""
    return lost(plan) is None


def halt_in(plan, course):
    """Returns a case of halt of the keys of this course, but for the key, None if there is none."""
    for moment, scene in enumerate(course):
        many, names = wanted_in(plan, scene, moment)
        if len(names) < many:
            return (moment, "write")
        many, names = asked_in(plan, scene, moment)
        if len(names) < many:
            return (moment, "read")
    return None


def halted(plan):
    """Returns a case of halt, None if the plan is able."""
    check_plan(plan)
    for key, course in courses(plan):
        case = halt_in(plan, course)
        if case is not None:
            return (key,) + case
    return None


def is_able(plan):
    """Tells whether each key can be written and read at each moment."""
    return halted(plan) is None
