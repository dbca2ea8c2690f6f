"""Manuals on the machines of a house."""

from tinkerhall.allowed import conditions, some_worlds
from tinkerhall.cases import MOST_WORLDS, Case
from tinkerhall.errors import Away, TooMany
from tinkerhall.runs import follow
from tinkerhall.verdicts import Verdict


def case_of(house, machine):
    """The case of a machine that is in the house, at the present moment."""
    floor = house.floor()
    _, plan, parts, inside = floor.machine(machine)
    if not inside:
        raise Away(machine)
    rows = {conditions(house, world, house.today): True for world in some_worlds(house)}
    if len(rows) > MOST_WORLDS:
        raise TooMany("world")
    bench = [(place, part) for name, place, part in floor.bench if name == machine]
    return Case(house.plan_of(plan), floor.kinds, parts, floor.shelf, list(rows), bench=bench)


def admitted(house, machine, manual, limit, *, strict=True):
    """The verdict on the manual for the case of the machine."""
    return Verdict(case_of(house, machine), manual, limit, strict=strict)


def do_manual(house, machine, manual, signs):
    """The run of the manual with these signs, which is entered in the book of the house."""
    run = follow(case_of(house, machine), manual, signs)
    entries = []
    for event in run.events:
        if event[0] == "look":
            _, test, line, sign = event
            row = manual.test_row(test)
            entries.append(("seen", house.now + len(entries), machine, row, ((len(row) - 1, line, sign),)))
        elif event[0] == "swap":
            entries.append(("swap", machine, event[1], event[2]))
        elif event[0] == "back":
            entries.append(("back", machine, event[1]))
    house.enter(*entries)
    return run
