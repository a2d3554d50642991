"""Cells: the keys that are kept alike between two marks, and how many keys each host keeps."""

from ringshares.errors import NoRoom
from ringshares.limits import MOST_MARKS
from ringshares.rings import check_name, check_ring, check_rings, keepers_in


def ahead(name, walk):
    """Returns the walk as it is for keys that meet this host first."""
    return (name,) + tuple([other for other in walk if other != name])


def walks(ring):
    """Returns the pairs of each mark, ascending, and the walk of its key."""
    rows = sorted([(mark, name) for name, _, marks in ring.hosts for mark in marks], reverse=True)
    # A key that is a mark meets its host first, and then all as the next mark's key does.
    walk = ring.walk(rows[0][0])
    found = []
    for mark, name in rows:
        walk = ahead(name, walk)
        found.append((mark, walk))
    return found[::-1]


def arcs_up_to(marks, points):
    """Returns for each of the ascending marks the arc from the point behind the one before it."""
    befores = marks[-1:] + marks[:-1]
    return [
        ((before + 1) % points, (mark - before - 1) % points + 1)
        for before, mark in zip(befores, marks)
    ]


def keepers_at(ring, marks):
    """Returns the keepers of the key at each of the ascending marks, among which the ring's are."""
    rows = [(mark, keepers_in(ring, walk)) for mark, walk in walks(ring)]
    own = dict(rows)
    # Behind the ring's last mark, keys go round to its first one.
    keepers = rows[0][1]
    found = []
    for mark in reversed(list(marks)):
        keepers = own.get(mark, keepers)
        found.append(keepers)
    return found[::-1]


def all_marks(hosts):
    """Returns the marks of these hosts, ascending, each once."""
    return sorted(set([mark for _, _, marks in hosts for mark in marks]))


def cells(ring):
    """Returns all cells, the marks ascending: the first point, how many points, the keepers."""
    check_ring(ring)
    marks = all_marks(ring.hosts)
    arcs = arcs_up_to(marks, ring.points)
    return tuple([
        (first, many, keepers) for (first, many), keepers in zip(arcs, keepers_at(ring, marks))
    ])


def common_cells(one, other):
    """Returns the cells of the marks of both rings, with the keepers by the one and by the other."""
    check_rings(one, other)
    marks = all_marks(one.hosts + other.hosts)
    arcs = arcs_up_to(marks, one.points)
    both = list(zip(keepers_at(one, marks), keepers_at(other, marks)))
    return tuple([(first, many, old, new) for (first, many), (old, new) in zip(arcs, both)])


def kept(ring, name):
    """Returns how many keys the host keeps."""
    check_ring(ring)
    check_name(ring, name)
    return sum([many for _, many, keepers in cells(ring) if name in keepers])


def leads(ring, name):
    """Returns of how many keys the host is the first keeper."""
    check_ring(ring)
    check_name(ring, name)
    return sum([many for _, many, keepers in cells(ring) if name == keepers[0]])


def shares(ring):
    """Returns the pairs of each name, ascending, and how many keys this host keeps."""
    rows = cells(ring)
    return tuple([
        (name, sum([many for _, many, keepers in rows if name in keepers])) for name in ring.names
    ])


def greatest(ring):
    """Returns the greatest number of keys that a host keeps."""
    return max([many for _, many in shares(ring)])


def walked_cells(ring):
    """Returns all cells, the marks ascending: the mark, how many points, the walk, the keepers."""
    rows = walks(ring)
    arcs = arcs_up_to([mark for mark, _ in rows], ring.points)
    return [
        (mark, many, walk, keepers_in(ring, walk)) for (mark, walk), (_, many) in zip(rows, arcs)
    ]


def change_counts(counts, many, old, new):
    """Takes so many keys from the old keepers' counts and gives them to the new ones'."""
    for name in old:
        counts[name] -= many
    for name in new:
        counts[name] += many


def counts_before(ring, rows, at, walk, shares_now):
    """Returns how many keys each host keeps if the first key of the cell at this index has this walk.

    Only the keys ahead of this cell are counted anew.
    """
    counts = dict(shares_now)
    place = at - 1
    _, many, old_walk, keepers = rows[place]
    walk = ahead(old_walk[0], walk)
    # Going back, a mark of the same host comes at last: keys up to it have the walk that they had.
    while walk != old_walk:
        change_counts(counts, many, keepers, keepers_in(ring, walk))
        place -= 1
        _, many, old_walk, keepers = rows[place]
        walk = ahead(old_walk[0], walk)
    return counts


def lines_with_mark(ring, name, rows, at, shares_now):
    """Returns for each host a pair (start, rise), the line of what it keeps.

    It keeps start + x * rise keys if the named host gets a mark at the x-th point of the cell at this index.
    """
    _, _, old_walk, keepers = rows[at]
    walk = ahead(name, old_walk)
    # Of the keys of this cell, just the x ones up to the new mark get another walk.
    rises = {host: 0 for host in ring.names}
    change_counts(rises, 1, keepers, keepers_in(ring, walk))
    starts = counts_before(ring, rows, at, walk, shares_now)
    return [(starts[host], rises[host]) for host in ring.names]


def highest(lines, x):
    """Returns the height of the highest line at this x."""
    return max([start + x * rise for start, rise in lines])


def lowest_place(lines, low, high):
    """Returns the least x from low to high where the highest line is lowest."""
    # The highest of straight lines does not fall again where it once fell no more.
    while low < high:
        middle = (low + high) // 2
        if highest(lines, middle) <= highest(lines, middle + 1):
            high = middle
        else:
            low = middle + 1
    return low


def free_ways(before, many, points):
    """Returns the ranges of x so that the x-th point of a cell is no mark, parted at the point 0."""
    # Round the end of the ring the later x have the lesser points: each part has its own least one.
    turn = points - before
    ways = ((1, min(many, turn) - 1), (turn, many - 1))
    return [(low, high) for low, high in ways if low <= high]


def best_mark(ring, name):
    """Returns the least point that leaves the least greatest number as a mark more, and this number."""
    check_ring(ring)
    check_name(ring, name)
    rows = walked_cells(ring)
    if len(ring[name][1]) == MOST_MARKS or len(rows) == ring.points:
        raise NoRoom(name)
    shares_now = shares(ring)
    found = []
    for at, (mark, many, _, _) in enumerate(rows):
        before = (mark - many) % ring.points
        lines = lines_with_mark(ring, name, rows, at, shares_now)
        for low, high in free_ways(before, many, ring.points):
            x = lowest_place(lines, low, high)
            found.append((highest(lines, x), (before + x) % ring.points))
    number, point = min(found)
    return (point, number)
