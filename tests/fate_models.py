"""Plain models of fates: every key, moment, lot of takers and lot of answerers is tried, as [11] to [14] tell."""

from itertools import combinations

from ringshares.plans import Plan
from ringshares.rings import Ring
from tests.models import free_points, plain_states, ring_with, small_rings, table, widened
from tests.support import Numbers, plain_ring
from tests.test_steps import mixed_plans, some_rings

JOIN = ("join", "d", "r2", (0,))
SETTLE = ("settle",)
WHOLE = (JOIN, ("copy", "d", "a"), ("copy", "d", "b"), ("copy", "d", "c"), SETTLE)
KNOWN = {}


def plain_scenes(plan, key):
    """Returns for each moment the keepers and the pendings of a key and all who are down, as sets."""
    scenes = []
    for hosts, later, down in plain_states(plan.ring, plan.steps):
        keepers = set(table(ring_with(plan.ring, hosts))[key])
        coming = set() if later is None else set(table(ring_with(plan.ring, later))[key])
        scenes.append((frozenset(keepers), frozenset(coming - keepers), frozenset(down)))
    return tuple(scenes)


def plain_wanted(plan, scene):
    """Returns how many have to take a write and the set of those who can."""
    keepers, pendings, down = scene
    if plan.ring.pending == "plain":
        return plan.ring.write, keepers - down
    return plan.ring.write + len(pendings), (keepers | pendings) - down


def plain_behind(step, scene, later, held):
    """Returns the set of those who have a write behind a step."""
    keepers, pendings, _ = scene
    match step:
        case ("copy", taker, giver) if taker in pendings and giver in keepers and giver in held:
            return held | {taker}
        case ("repair", taker, giver) if taker in keepers and giver in keepers and giver in held:
            return held | {taker}
        case ("wipe", name):
            return held - {name}
        case ("settle",):
            return held & later[0]
    return held


def plain_held(plan, scenes, moment, takers):
    """Returns the sets of those who have a write of this moment, at this moment and at each later one."""
    rows = [frozenset(takers)]
    for at in range(moment, len(plan.steps)):
        rows.append(plain_behind(plan.steps[at], scenes[at], scenes[at + 1], rows[-1]))
    return rows


def lots_of_takers(plan, scene):
    many, names = plain_wanted(plan, scene)
    return list(combinations(sorted(names), many))


def lots_of_answerers(plan, scene):
    keepers, _, down = scene
    return list(combinations(sorted(keepers - down), plan.ring.read_number))


def has_loss(plan, scenes):
    """Tells whether a key with these scenes can have a lost write."""
    for moment, scene in enumerate(scenes):
        for takers in lots_of_takers(plan, scene):
            rows = plain_held(plan, scenes, moment, takers)
            for held, later in zip(rows, scenes[moment:]):
                if any(not held & set(lot) for lot in lots_of_answerers(plan, later)):
                    return True
    return False


def halts_of(plan, scenes):
    """Returns all moments and words at which a key with these scenes can not be written or read."""
    found = set()
    for moment, scene in enumerate(scenes):
        if not lots_of_takers(plan, scene):
            found.add((moment, "write"))
        if not lots_of_answerers(plan, scene):
            found.add((moment, "read"))
    return found


def keys_with_loss(plan):
    """Returns the set of all keys of a small ring that can have a lost write."""
    text = str(plan)
    if text not in KNOWN:
        rows = [plain_scenes(plan, key) for key in range(plan.ring.points)]
        # All that [12] to [14] ask for is in the scenes: keys with the same ones fare alike.
        lossy = {scenes for scenes in set(rows) if has_loss(plan, scenes)}
        KNOWN[text] = {key for key, scenes in enumerate(rows) if scenes in lossy}
    return KNOWN[text]


def all_halts(plan):
    """Returns all cases of halt of a plan of a small ring."""
    return {(key,) + halt for key in range(plan.ring.points) for halt in halts_of(plan, plain_scenes(plan, key))}


def is_loss(plan, case):
    """Tells whether a tuple of the right kinds is a case of loss of a plan, by walking it step by step."""
    key, moment, takers, until, answerers = case
    if not 0 <= moment <= until <= len(plan.steps):
        return False
    scenes = plain_scenes(plan, key)
    if takers not in lots_of_takers(plan, scenes[moment]) or answerers not in lots_of_answerers(plan, scenes[until]):
        return False
    return not plain_held(plan, scenes, moment, takers)[until - moment] & set(answerers)


def ruled_otherwise(ring, numbers):
    """Returns the ring with some other numbers for writes and reads."""
    write = 1 + numbers.below(ring.factor)
    read = 1 + numbers.below(ring.factor)
    return ring.ruled(write, read, ("plain", "with")[numbers.below(2)])


def copies_of(ring, later):
    """Returns the copies from each keeper to each pending of all keys of a small ring."""
    pairs = set()
    for old, new in zip(table(ring), table(later)):
        pairs |= {(taker, giver) for taker in set(new) - set(old) for giver in old}
    return tuple(("copy", taker, giver) for taker, giver in sorted(pairs))


def changes_of(ring, numbers):
    """Returns rows of steps that change a ring by a join, or by a leave, with all copies."""
    free = free_points(ring)
    marks = tuple(sorted(numbers.chosen(free, 1 + numbers.below(min(len(free), 3)))))
    rows = [("join", "new", "r1", marks)]
    if len(ring) > 1:
        rows.append(("leave", ring.names[numbers.below(len(ring))]))
    return [(step,) + copies_of(ring, Plan(ring, (step,)).coming(1)) + (SETTLE,) for step in rows]


def steps_between(ring, numbers):
    """Returns steps that may fit somewhere in a plan of a ring: falls, rises, wipes and repairs."""
    names = list(ring.names) + ["new"]
    one, other = numbers.chosen(names, 2)
    return [("down", one), ("up", one), ("wipe", one), ("repair", one, other), ("repair", other, one)]


def bent_plans(ring, steps, numbers):
    """Returns plans of a row of steps, with one left out, with one moved, and with some put between."""
    rows = [steps]
    for _ in range(2):
        at = numbers.below(len(steps))
        rows.append(steps[:at] + steps[at + 1:])
        to = numbers.below(len(steps))
        rows.append(rows[-1][:to] + (steps[at],) + rows[-1][to:])
    for _ in range(4):
        more = list(steps)
        for step in numbers.chosen(steps_between(ring, numbers), 2):
            more.insert(numbers.below(len(more) + 1), step)
        rows.append(tuple(more))
    # The model alone judges which of them are plans.
    return [Plan(ring, row) for row in rows if len(row) <= 24 and len(plain_states(ring, row)) == len(row) + 1]


def word_ring():
    """Returns a ring whose hosts are named like steps."""
    hosts = (("settle", "copy", (2,)), ("wipe", "settle", (5, 7)), ("repair", "wipe", (9,)), ("copy", "copy", (11,)))
    return Ring(12, 2, "racks", 1, 2, "with", hosts)


def some_plans():
    """Returns many plans of small rings with rules of all kinds, safe ones and others, able ones and others."""
    numbers = Numbers(1214)
    plans = []
    for ring, steps, _ in mixed_plans(some_rings() * 3, 9):
        plans.append(Plan(ruled_otherwise(ring, numbers), steps))
    rings = [ring for ring in small_rings() if len(ring) < 7 and free_points(ring)]
    for ring in rings + [plain_ring()] * 4 + [word_ring()] * 8:
        for steps in changes_of(ring, numbers):
            plans += bent_plans(ruled_otherwise(ring, numbers), steps, numbers)
    return plans


def of_many_points(plan, width):
    """Returns the plan in which each point is so many, a mark the last one of them."""
    return Plan(widened(plan.ring, width), tuple(widened_step(step, width) for step in plan.steps))


def widened_step(step, width):
    if step[0] != "join":
        return step
    return step[:3] + (tuple(mark * width + width - 1 for mark in step[3]),)


def turned_hosts(hosts, turn, points, other_name):
    """Returns hosts with their marks moved round and other names."""
    return tuple(
        (other_name[name], rack, tuple(sorted((mark + turn) % points for mark in marks)))
        for name, rack, marks in hosts
    )


def turned_step(step, turn, points, other_name):
    if step[0] == "join":
        return step[:1] + turned_hosts((step[1:],), turn, points, other_name)[0]
    return step[:1] + tuple(other_name[name] for name in step[1:])


def turned(plan, numbers):
    """Returns how far marks are moved, the other names, and the plan with these and its hosts in another order."""
    points = plan.ring.points
    turn = numbers.below(points)
    names = sorted({host[0] for moment in range(len(plan) + 1) for host in plan.counting(moment).hosts}
                   | {step[1] for step in plan.steps if step[0] == "join"})
    # The last name comes first now.
    other_name = {name: f"m{99 - k}" for k, name in enumerate(names)}
    hosts = turned_hosts(numbers.chosen(plan.ring.hosts, len(plan.ring)), turn, points, other_name)
    steps = tuple(turned_step(step, turn, points, other_name) for step in plan.steps)
    return turn, other_name, Plan(ring_with(plan.ring, hosts), steps)


def ruled(plan, write, read, pending):
    """Returns the plan with other numbers for writes and reads."""
    return Plan(plan.ring.ruled(write, read, pending), plan.steps)


def plain_plan(*steps, write=1, read=2, pending="with"):
    """Returns a plan of the ring of the document's examples."""
    return Plan(plain_ring().ruled(write, read, pending), steps)


def lone_ring(points=12):
    return Ring(points, 2, "hosts", 1, 1, "plain", (("a", "r", (4,)),))
