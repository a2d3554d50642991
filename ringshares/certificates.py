"""Certificates: answers with papers that the checker reads."""

from ringshares.cells import kept
from ringshares.fates import halted, lost
from ringshares.likeness import unlike_arcs
from ringshares.mends import holds, thin_moment
from ringshares.rings import Ring


def certify_rings(one, other):
    """Returns the claim that the two rings are not alike, with its certificate, None if they are."""
    arcs = unlike_arcs(one, other)
    if not arcs:
        return None
    return (("unlike", str(one), str(other)), arcs[0][0])


def certify_share(ring, name):
    """Returns the claim how many keys the host keeps, with its certificate."""
    many = kept(ring, name)
    return (("keeps", str(ring), name, many), ())


def certify(plan, wish):
    """Returns the claim that the wish holds or what shows that it does not, with its certificate."""
    if holds(plan, wish):
        return (("holds", str(plan), wish), ())
    if wish[0] == "safe":
        return (("lost", str(plan)), lost(plan))
    if wish[0] == "able":
        return (("halts", str(plan)), halted(plan))
    if wish[0] == "racks":
        return (("thin", str(plan), wish[1]), thin_moment(plan, wish[1]))
    if wish[0] == "like":
        return certify_rings(plan.counting(len(plan)), Ring.read(wish[1]))
    # Nothing shows that a change is under way but the plan itself.
    return None
