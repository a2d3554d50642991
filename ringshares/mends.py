"""Mends: wishes for plans and for rings, and the least further steps with which a plan keeps its wishes."""

from ringshares.basics import is_form_of, is_from_to, is_name, is_whole, is_word_of, lots
from ringshares.cells import cells, kept
from ringshares.errors import InvalidFurther, InvalidSteps, InvalidText, InvalidWish, InvalidWishes
from ringshares.falls import KINDS, bears
from ringshares.fates import is_able, is_safe
from ringshares.likeness import alike
from ringshares.limits import MOST_FACTOR, MOST_FURTHER, MOST_HOSTS, MOST_WISHES
from ringshares.plans import Plan, check_plan
from ringshares.rings import Ring, check_ring

PLAN_WISHES = (("safe", 1), ("able", 1), ("racks", 2), ("like", 2), ("calm", 1))
RING_WISHES = (("share", 3), ("bears", 4), ("racks", 2))


def is_text_of_ring(value, points):
    """Tells whether value is the text of a ring with so many points."""
    try:
        return Ring.read(value).points == points
    except InvalidText:
        return False


def is_wish_for_plan(plan, value):
    """Tells whether value is a wish for this plan."""
    if not is_form_of(value, PLAN_WISHES):
        return False
    if value[0] == "racks":
        return is_from_to(value[1], 1, MOST_FACTOR)
    if value[0] == "like":
        return is_text_of_ring(value[1], plan.ring.points)
    return True


def is_wish_for_ring(value):
    """Tells whether value is a wish for a ring, whatever hosts it has."""
    if not is_form_of(value, RING_WISHES):
        return False
    if value[0] == "racks":
        return is_from_to(value[1], 1, MOST_FACTOR)
    if value[0] == "share":
        return is_name(value[1]) and is_whole(value[2]) and value[2] >= 0
    _, kind, down, left = value
    return is_word_of(kind, KINDS) and is_from_to(down, 0, MOST_HOSTS) and is_from_to(left, 0, MOST_FACTOR)


def thin_key(ring, many):
    """Returns a key whose keepers stand in fewer racks than so many, None if there is none."""
    rack_of = {name: rack for name, rack, _ in ring.hosts}
    for first, _, keepers in cells(ring):
        if len(set([rack_of[name] for name in keepers])) < many:
            return first
    return None


def thin_moment(plan, many):
    """Returns a pair of such a key and a moment at which it is one, None if there is none."""
    # Another ring counts only behind a settling.
    settled = [at + 1 for at, step in enumerate(plan.steps) if step[0] == "settle"]
    for moment in [0] + settled:
        key = thin_key(plan.counting(moment), many)
        if key is not None:
            return (key, moment)
    return None


def holds(plan, wish):
    """Tells whether this wish holds for the plan."""
    check_plan(plan)
    if not is_wish_for_plan(plan, wish):
        raise InvalidWish(wish)
    if wish[0] == "safe":
        return is_safe(plan)
    if wish[0] == "able":
        return is_able(plan)
    if wish[0] == "racks":
        return thin_moment(plan, wish[1]) is None
    if wish[0] == "calm":
        return plan.coming(len(plan)) is None
    return alike(plan.counting(len(plan)), Ring.read(wish[1]))


def stands(ring, wish):
    """Tells whether this wish holds for the ring."""
    check_ring(ring)
    if not is_wish_for_ring(wish):
        raise InvalidWish(wish)
    if wish[0] == "racks":
        return thin_key(ring, wish[1]) is None
    if wish[0] == "share":
        return wish[1] in ring and kept(ring, wish[1]) <= wish[2]
    _, kind, down, left = wish
    return bears(ring, kind, down, left)


def first_broken(plan, wishes):
    """Returns the index of the first of these wishes that does not hold, None if all hold."""
    for index, wish in enumerate(wishes):
        if not holds(plan, wish):
            return index
    return None


def check_wishes(plan, wishes):
    """Raises InvalidWishes if these are not up to six wishes for the plan."""
    if not isinstance(wishes, tuple):
        raise InvalidWishes(None)
    for index, wish in enumerate(wishes):
        if index == MOST_WISHES or not is_wish_for_plan(plan, wish):
            raise InvalidWishes(index)


def is_further_step(plan, value):
    """Tells whether value is a pair of a place in the plan and a tuple, which may be no step."""
    if not isinstance(value, tuple) or len(value) != 2:
        return False
    return is_from_to(value[0], 0, len(plan)) and isinstance(value[1], tuple)


def check_further(plan, further):
    """Raises InvalidFurther if these are not up to six further steps for the plan."""
    if not isinstance(further, tuple):
        raise InvalidFurther(None)
    for index, pair in enumerate(further):
        if index == MOST_FURTHER or not is_further_step(plan, pair):
            raise InvalidFurther(index)


def steps_with(steps, more):
    """Returns the steps with more of them put in, the pairs of a place and a step."""
    found = []
    for at in range(len(steps) + 1):
        found = found + [step for place, step in more if place == at] + list(steps[at:at + 1])
    return tuple(found)


def is_mended(plan, wishes, more):
    """Tells whether with these further steps there is a plan for which all wishes hold."""
    try:
        later = Plan(plan.ring, steps_with(plan.steps, more))
    except InvalidSteps:
        return False
    return first_broken(later, wishes) is None


def has_part(places, parts):
    """Tells whether one of these parts lies wholly within the places."""
    return any([all([place in places for place in part]) for part in parts])


def mends(plan, wishes, further):
    """Returns all least sets of further steps that mend the plan, as tuples of their places."""
    check_plan(plan)
    check_wishes(plan, wishes)
    check_further(plan, further)
    found = []
    # Taken by their number of places, a set comes behind all of its parts.
    for many in range(len(further) + 1):
        for places in lots(list(range(len(further))), many):
            if not has_part(places, found) and is_mended(plan, wishes, [further[place] for place in places]):
                found.append(places)
    return tuple(found)
