"""The checker: it reads a claim with its certificate, and accepts what it finds to be true."""

from ringshares.basics import is_form_of, is_from_to, is_lot_of, is_whole, is_word_of
from ringshares.cells import kept
from ringshares.errors import BadName, BadValue
from ringshares.fates import asked, holders, wanted
from ringshares.limits import MOST_FACTOR
from ringshares.mends import holds
from ringshares.plans import Plan
from ringshares.rings import Ring

# Each of these functions is given the parts of a claim behind its word, and the certificate. Where
# one of them is none, it returns False or raises an error of this package.


def has_length(value, many):
    """Tells whether value is a tuple of so many elements."""
    return isinstance(value, tuple) and len(value) == many


def shows_holding(parts, certificate):
    """Tells whether the wish holds for the plan."""
    text, wish = parts
    return has_length(certificate, 0) and holds(Plan.read(text), wish)


def shows_loss(parts, certificate):
    """Tells whether the certificate is a case of loss of the plan."""
    plan = Plan.read(parts[0])
    if not has_length(certificate, 5):
        return False
    key, moment, takers, until, answerers = certificate
    held = holders(plan, key, moment, takers, until)
    many, names = asked(plan, key, until)
    return is_lot_of(answerers, many, names) and not any([name in held for name in answerers])


def shows_halt(parts, certificate):
    """Tells whether the certificate is a case of halt of the plan."""
    plan = Plan.read(parts[0])
    if not has_length(certificate, 3) or not is_word_of(certificate[2], ("write", "read")):
        return False
    key, moment, word = certificate
    many, names = wanted(plan, key, moment) if word == "write" else asked(plan, key, moment)
    return len(names) < many


def shows_thin(parts, certificate):
    """Tells whether the certificate is a key and a moment at which its keepers stand in too few racks."""
    text, number = parts
    plan = Plan.read(text)
    if not is_from_to(number, 1, MOST_FACTOR) or not has_length(certificate, 2):
        return False
    key, moment = certificate
    keepers = plan.keepers(key, moment)
    ring = plan.counting(moment)
    return len(set([ring[name][0] for name in keepers])) < number


def both_keepers(parts, key):
    """Returns the keepers of the key in the two rings, the same ones if the rings have other points."""
    one, other = [Ring.read(text) for text in parts]
    if one.points != other.points:
        return ((), ())
    return (one.keepers(key), other.keepers(key))


def shows_unlike(parts, certificate):
    """Tells whether the certificate is a key with other keepers, or others in their order, in the two rings."""
    old, new = both_keepers(parts, certificate)
    return old != new


def shows_alien(parts, certificate):
    """Tells whether the certificate is a key with other hosts as keepers in the two rings."""
    old, new = both_keepers(parts, certificate)
    return sorted(old) != sorted(new)


def shows_share(parts, certificate):
    """Tells whether the host keeps so many keys of the ring."""
    text, name, many = parts
    return has_length(certificate, 0) and is_whole(many) and kept(Ring.read(text), name) == many


FORMS = (("holds", 3), ("lost", 2), ("halts", 2), ("thin", 3), ("unlike", 3), ("alien", 3), ("keeps", 4))
ACTIONS = {
    "holds": shows_holding,
    "lost": shows_loss,
    "halts": shows_halt,
    "thin": shows_thin,
    "unlike": shows_unlike,
    "alien": shows_alien,
    "keeps": shows_share,
}


def accepts(claim, certificate):
    """Tells whether this is a claim for the checker, and this a certificate for it."""
    if not is_form_of(claim, FORMS):
        return False
    action = ACTIONS[claim[0]]
    try:
        return action(claim[1:], certificate)
    except (BadValue, BadName):
        return False
