"""Likeness: the keys that two rings keep otherwise, and what moves from the one to the other."""

from ringshares.cells import common_cells


def arcs_told(rows):
    """Returns as few arcs as there can be of the keys of the cells that are told.

    Each of the rows is a cell, in their order round the ring: first point, how many, whether told.
    """
    others = [at for at, (_, _, told) in enumerate(rows) if not told]
    if not others:
        return ((0, sum([many for _, many, _ in rows])),)
    # Begun at a cell that is not told, no arc goes beyond the end of the row.
    turned = rows[others[0]:] + rows[:others[0]]
    arcs = []
    grows = False
    for first, many, told in turned:
        if told and grows:
            first, before = arcs.pop()
            many = many + before
        if told:
            arcs.append((first, many))
        grows = told
    return tuple(sorted(arcs))


def unlike_arcs(one, other):
    """Returns the arcs of the keys that have other keepers, or others in their order, in the two rings."""
    rows = common_cells(one, other)
    return arcs_told([(first, many, old != new) for first, many, old, new in rows])


def alien_arcs(one, other):
    """Returns the arcs of the keys that have other hosts as keepers in the two rings."""
    rows = common_cells(one, other)
    return arcs_told([(first, many, sorted(old) != sorted(new)) for first, many, old, new in rows])


def alike(one, other):
    """Tells whether each key has the same keepers, in the same order, in both rings."""
    return len(unlike_arcs(one, other)) == 0


def kin(one, other):
    """Tells whether each key has the same hosts as keepers in both rings."""
    return len(alien_arcs(one, other)) == 0


def moves(one, other):
    """Returns for each name of both rings, ascending: the name, how many keys it gains and loses."""
    rows = common_cells(one, other)
    return tuple([
        (
            name,
            sum([many for _, many, old, new in rows if name in new and name not in old]),
            sum([many for _, many, old, new in rows if name in old and name not in new]),
        )
        for name in sorted(set(one.names + other.names))
    ])


def moved(one, other):
    """Returns how many keys are gained from the one ring to the other by all hosts together."""
    return sum([gained for _, gained, _ in moves(one, other)])
