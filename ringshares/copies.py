"""Copies: what a join or a leave has to hand on, and the plan that does it."""

from ringshares.cells import common_cells
from ringshares.errors import InvalidStep, InvalidSteps, NoRoom
from ringshares.limits import MOST_STEPS
from ringshares.plans import Plan


def begun(ring, step):
    """Returns the plan of the ring with this join or leave alone."""
    try:
        plan = Plan(ring, (step,))
    except InvalidSteps:
        raise InvalidStep(step) from None
    if plan.coming(1) is None:
        raise InvalidStep(step)
    return plan


def copies(ring, step):
    """Returns the copy steps, ascending, from each keeper of some key to each that it has as a pending."""
    plan = begun(ring, step)
    return tuple(sorted(set([
        ("copy", taker, giver)
        for _, _, old, new in common_cells(ring, plan.coming(1))
        for taker in new if taker not in old
        for giver in old
    ])))


def change(ring, step):
    """Returns the plan with this join or leave, all of its copies, and settling."""
    steps = (step,) + copies(ring, step) + (("settle",),)
    if len(steps) > MOST_STEPS:
        raise NoRoom(len(steps))
    return Plan(ring, steps)
