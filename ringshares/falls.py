"""Falls: how many keepers are up when hosts or racks are down."""

from ringshares.basics import is_from_to, is_word_of
from ringshares.cells import cells
from ringshares.errors import InvalidKind, InvalidNumber
from ringshares.limits import MOST_FACTOR, MOST_HOSTS
from ringshares.rings import check_ring

KINDS = ("hosts", "racks")


def worst_fall(homes, down):
    """Returns the names, ascending, at most so many, that stand for the most of these homes."""
    counts = {home: homes.count(home) for home in homes}
    most_first = sorted([(-many, home) for home, many in counts.items()])
    return tuple(sorted([home for _, home in most_first[:down]]))


def breach(ring, kind, down, left):
    """Returns a key and the hosts or racks that leave it too few keepers, None if it bears all."""
    check_ring(ring)
    if not is_word_of(kind, KINDS):
        raise InvalidKind(kind)
    if not is_from_to(down, 0, MOST_HOSTS):
        raise InvalidNumber(down)
    if not is_from_to(left, 0, MOST_FACTOR):
        raise InvalidNumber(left)
    for first, _, keepers in cells(ring):
        # What falls is a host or its rack: a keeper is up as long as its home is.
        homes = [name if kind == "hosts" else ring[name][0] for name in keepers]
        names = worst_fall(homes, down)
        if len([home for home in homes if home not in names]) < left:
            return (first, names)
    return None


def bears(ring, kind, down, left):
    """Tells whether each key has so many keepers left, whichever hosts or racks are down."""
    return breach(ring, kind, down, left) is None
