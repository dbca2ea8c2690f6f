"""Kinds compared by what their parts give alone."""

from tinkerhall.acting import acts
from tinkerhall.drives import Drive
from tinkerhall.errors import Unlike
from tinkerhall.fields import Pairs
from tinkerhall.hunts import least_hit, listed
from tinkerhall.plans import Plan


def alike_alone(first, second):
    """None if whole parts of both kinds always give the same, otherwise the parting row."""
    if first.signs != second.signs:
        raise Unlike("signs")
    if first.inputs != second.inputs:
        raise Unlike("inputs")
    pairs = Pairs(_whole_alone(first), _whole_alone(second))
    if listed(pairs) is not None:
        return None
    row, _ = least_hit(pairs)
    return row


def hidden_ways(kind):
    """The conditions above 0 in which a part alone always gives what a whole one gives, ascending."""
    plan = Plan.alone(kind)
    return tuple([way for way in range(1, len(kind) + 1) if acts(plan, ((kind.name, way),))])


def _whole_alone(kind):
    plan = Plan.alone(kind)
    return Drive(plan, plan.own, plan.exits)
