"""The standings of a manual on a case, one by one."""

from tinkerhall.forms import as_tuples
from tinkerhall.reach import Reach
from tinkerhall.runs import Work


def standings_of(case, manual):
    """All standings, in the order in which they are found."""
    return tuple(Reach(Work(case, manual)).standings)


def followers(case, manual, standing):
    """The standings that can come next."""
    told, _, _ = Work(case, manual).expanded(as_tuples(standing))
    return tuple(told)


def takes(case, manual, standing):
    """The minutes of the step that is due."""
    _, _, bill = Work(case, manual).expanded(as_tuples(standing))
    return bill.minutes
