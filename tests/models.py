"""Plain models to hold the program against: everything is tried key by key, host by host, step by step."""

import re
from itertools import combinations

from ringshares.rings import Ring
from tests.support import NAME, NUMBER, Numbers, is_ring_text, mixed_hosts, mixed_rings, plain_keepers

MOST = 10 ** 18
KNOWN = {}


def table(ring):
    """Returns the keepers of all keys of a small ring, found by plain walks."""
    text = str(ring)
    if text not in KNOWN:
        KNOWN[text] = [plain_keepers(ring, key) for key in range(ring.points)]
    return KNOWN[text]


def widened(ring, width):
    """Returns the ring in which each point is so many, a mark the last one of them."""
    hosts = tuple((name, rack, tuple(mark * width + width - 1 for mark in marks)) for name, rack, marks in ring.hosts)
    return Ring(ring.points * width, ring.factor, ring.spread, ring.write, ring.read_number, ring.pending, hosts)


def marks_of(ring):
    return sorted(mark for _, _, marks in ring.hosts for mark in marks)


def free_points(ring):
    marks = marks_of(ring)
    return [point for point in range(ring.points) if point not in marks]


def small_rings():
    """Returns mixed rings of few points, and some that are like none of these."""
    rings = [ring for ring in mixed_rings() if ring.points < 100]
    one = (("a", "r", (4,)),)
    rings += [Ring(points, 2, "hosts", 1, 1, "plain", one) for points in (5, 6, 12)]
    rings += [Ring(1, 1, "racks", 1, 1, "plain", (("a", "r", (0,)),))]
    rings += [Ring(3, 2, "racks", 1, 1, "with", (("b", "r", (0, 2)), ("a", "s", (1,))))]
    return rings


def pairs_with_one_host_more(ring, numbers):
    """Returns pairs of the ring and others that differ from it by one host."""
    pairs = []
    free = free_points(ring)
    if free and len(ring) < 12:
        for rack in ("r0", "r1", "new"):
            marks = numbers.chosen(free, 1 + numbers.below(min(len(free), 16)))
            pairs.append((ring, ring.joined("new", rack, tuple(sorted(marks)))))
    if len(ring) > 1:
        pairs.append((ring, ring.left(ring.hosts[numbers.below(len(ring))][0])))
    return pairs


def pairs_of_any_kind(ring, numbers):
    """Returns pairs of the ring and others with its points: other hosts, factors, spreads, rules alone."""
    many = 1 + numbers.below(min(12, ring.points))
    others = mixed_hosts(numbers, ring.points, many, 1 + numbers.below(16), 3)
    turned = "racks" if ring.spread == "hosts" else "hosts"
    factor = 1 + numbers.below(5)
    return [
        (ring, Ring(ring.points, factor, ring.spread, 1, 1, "with", others)),
        (ring, Ring(ring.points, ring.factor, turned, 1, 1, "with", ring.hosts)),
        (ring, Ring(ring.points, factor, ring.spread, 1, 1, "plain", ring.hosts)),
        (ring, Ring(ring.points, ring.factor, ring.spread, 1, 1, "with", tuple(reversed(ring.hosts)))),
        (ring, ring),
    ]


def ring_pairs():
    """Returns pairs of small rings with the same points."""
    numbers = Numbers(5)
    pairs = []
    for ring in small_rings():
        pairs += pairs_with_one_host_more(ring, numbers)
        pairs += pairs_of_any_kind(ring, numbers)
    return pairs


def plain_arcs(told):
    """Returns the fewest arcs of the keys that are told, a row of True and False for all keys."""
    points = len(told)
    if all(told):
        return ((0, points),)
    arcs = []
    for key in range(points):
        if told[key] and not told[key - 1]:
            many = 1
            while told[(key + many) % points]:
                many += 1
            arcs.append((key, many))
    return tuple(arcs)


def keys_of(arc, points):
    first, many = arc
    return [(first + k) % points for k in range(many)]


def plain_best_mark(ring, name):
    """Returns the best mark of a host, all points tried."""
    found = []
    for point in free_points(ring):
        hosts = tuple((host, rack, tuple(sorted(marks + (point,))) if host == name else marks)
                      for host, rack, marks in ring.hosts)
        later = Ring(ring.points, ring.factor, ring.spread, 1, 1, "plain", hosts)
        kept = [host for key in range(ring.points) for host in later.keepers(key)]
        found.append((max(kept.count(host) for host in ring.names), point))
    number, point = min(found)
    return (point, number)


def homes_of(ring, kind):
    """Returns for each name of a host what falls with it: itself or its rack."""
    return {name: name if kind == "hosts" else rack for name, rack, _ in ring.hosts}


def least_up(ring, kind, down):
    """Returns the least number of keepers that a key has up, whichever fall, all lots tried."""
    homes = homes_of(ring, kind)
    names = sorted(set(homes.values()))
    rows = sorted(set(table(ring)))
    return min(
        sum(homes[name] not in lot for name in keepers)
        for lot in combinations(names, min(down, len(names))) for keepers in rows
    )


def can_join(hosts, points, name, rack, marks):
    """Tells whether a host can stand behind these, all of its values being of the right kinds."""
    taken = [mark for host in hosts for mark in host[2]]
    return (
        len(hosts) < 12 and name not in [host[0] for host in hosts]
        and re.fullmatch(NAME, name) is not None and re.fullmatch(NAME, rack) is not None
        and 1 <= len(marks) <= 16 and list(marks) == sorted(set(marks))
        and all(0 <= mark < points and mark not in taken for mark in marks)
    )


def plain_step(state, step, points):
    """Returns the state (hosts, next hosts or None, set of those down) behind a step, None if it does not fit."""
    hosts, later, down = state
    here = {host[0] for host in hosts}
    there = {host[0] for host in later or ()}
    changing = later is not None
    match step:
        case ("join", name, rack, marks):
            if not changing and can_join(hosts, points, name, rack, marks):
                return hosts, hosts + ((name, rack, marks),), down
        case ("leave", name):
            if not changing and name in here and len(here) > 1:
                return hosts, tuple(host for host in hosts if host[0] != name), down
        case ("copy", taker, giver):
            if changing and taker in there and giver in here and taker != giver and not {taker, giver} & down:
                return state
        case ("repair", taker, giver):
            if taker in here and giver in here and taker != giver and not {taker, giver} & down:
                return state
        case ("settle",):
            if changing:
                return later, None, down & there
        case ("down", name):
            if name in (here | there) - down:
                return hosts, later, down | {name}
        case ("up", name):
            if name in down:
                return hosts, later, down - {name}
        case ("wipe", name):
            if name in here | there:
                return state
    return None


def plain_states(ring, steps):
    """Returns the states at all moments of a plan as far as its steps fit."""
    states = [(ring.hosts, None, set())]
    for step in steps:
        state = plain_step(states[-1], step, ring.points)
        if state is None:
            break
        states.append(state)
    return states


def ring_with(ring, hosts):
    return Ring(ring.points, ring.factor, ring.spread, ring.write, ring.read_number, ring.pending, hosts)


def every_step(ring, joins):
    """Returns steps of all kinds with the names of a ring, of the joins and one more; many never fit."""
    names = list(ring.names) + [step[1] for step in joins] + ["zz"]
    steps = list(joins) + [("settle",)]
    for name in names:
        steps += [(word, name) for word in ("leave", "down", "up", "wipe")]
        steps += [(word, name, other) for word in ("copy", "repair") for other in names]
    return steps


STEP_ROW = re.compile(
    f"settle|(?:leave|down|up|wipe) {NAME}|(?:copy|repair) {NAME} {NAME}|join {NAME} {NAME}(?: (?:{NUMBER}))+")


def step_in(row):
    """Returns the step that a row tells, which matches the pattern."""
    words = row.split(" ")
    if words[0] == "join":
        return ("join", words[1], words[2], tuple(int(word) for word in words[3:]))
    return tuple(words)


def is_plan_text(text):
    """Tells whether text is the text of a plan, by patterns and the plain model alone."""
    rows = text.split("\n")
    if "plan" not in rows:
        return False
    at = rows.index("plan")
    if not is_ring_text("\n".join(rows[:at])) or not all(STEP_ROW.fullmatch(row) for row in rows[at + 1:]):
        return False
    ring = Ring.read("\n".join(rows[:at]))
    steps = [step_in(row) for row in rows[at + 1:]]
    return len(steps) <= 24 and len(plain_states(ring, steps)) == len(steps) + 1
