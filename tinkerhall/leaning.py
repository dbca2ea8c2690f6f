"""Manuals without looks that tell nothing."""

from tinkerhall.branches import branched
from tinkerhall.errors import TooLong
from tinkerhall.manuals import MOST_STATEMENTS, Manual
from tinkerhall.reach import Reach
from tinkerhall.runs import Work
from tinkerhall.statements import all_statements


def leaned(case, manual):
    """The manual that does the same in every world of the case, with one chapter."""
    reach = Reach(Work(case, manual))
    number = _many_written(reach)
    if number > MOST_STATEMENTS:
        raise TooLong(number)
    body = _written(reach, 0)
    used = [statement[1] for statement in all_statements(body) if statement[0] == "look"]
    tests = [test for test in manual.tests if test[0] in used]
    return Manual(tests, ((manual.chapters[0][0], body),))


def _is_written(reach, number):
    """Whether the step that is due is written: it does something, or reads what is not known."""
    if reach.due_at(number)[0] == "look":
        return len(reach.after[number]) > 1
    return reach.events[number] is not None


def _many_written(reach):
    """The number of statements that are written from the beginning on."""
    many = [0] * len(reach.standings)
    for number in reach.latest_first:
        # A look with several followers brings an `if` for each of them but one.
        own = max(1, len(reach.after[number])) if _is_written(reach, number) else 0
        many[number] = own + sum([many[follower] for follower in reach.after[number]])
    return many[0]


def _written(reach, number):
    """The body that is written from this standing on."""
    body = []
    after = [number]
    while len(after) == 1:
        number = after[0]
        after = reach.after[number]
        if _is_written(reach, number):
            due = reach.due_at(number)
            body.append(due if due[0] in ("done", "quit") else due[:-1])
    if after:
        body.extend(branched([(reach.standings[follower][2], _written(reach, follower)) for follower in after]))
    return tuple(body)
