"""The journal of a house, written, read, and taken up where it is torn."""

from tinkerhall.cattext import made_catalogue, take_catalogue, write_catalogue
from tinkerhall.entrytext import take_entry, write_entry
from tinkerhall.errors import BadLine, TinkerError, Torn
from tinkerhall.house import MOST_BREAKS, House
from tinkerhall.plans import Plan
from tinkerhall.plantext import take_plan, write_plan
from tinkerhall.reading import Lines


def write_journal(house):
    """The lines of the house: its catalogue, its plans, the most breaks, and its entries."""
    lines = list(write_catalogue(house.catalogue))
    for name, plan in house.plans:
        lines.append(f"plan {name}")
        lines.extend(write_plan(plan))
    lines.append(f"most {house.most}")
    lines.extend([write_entry(entry) for entry in house])
    return tuple(lines)


def read_journal(lines):
    """The house that the lines tell."""
    reader = Lines(lines)
    told = _take_heading(reader)
    entries = []
    while reader.has_more():
        entries.append(take_entry(reader))
    house = _made_house(told)
    house.enter(*entries)
    return house


def taken_up(lines):
    """The house that the longest good beginning of the lines tells, and the number of these lines."""
    reader = Lines(lines)
    try:
        told = _take_heading(reader)
    except BadLine as error:
        raise Torn(error.line) from error
    house = _made_house(told)
    taken = reader.many_taken()
    try:
        while reader.has_more():
            house.enter(take_entry(reader))
            taken += 1
    except TinkerError:
        # The first line that cannot be read, or is refused, ends what is taken.
        return house, taken
    return house, taken


def _take_heading(reader):
    """What the lines up to and with `most` tell; nothing is judged yet."""
    catalogue = take_catalogue(reader)
    plans = []
    while reader.first_word() == "plan":
        words = reader.begin("plan")
        name = words.take_name()
        words.finish()
        plans.append((name, take_plan(reader)))
    words = reader.begin("most")
    most = words.take_number(0, MOST_BREAKS)
    words.finish()
    return catalogue, plans, most


def _made_house(told):
    """The house of what was told, with the errors of its objects in order."""
    first, plans, most = told
    catalogue = made_catalogue(first)
    return House(catalogue, [(name, Plan(catalogue, *parts)) for name, parts in plans], most=most)
