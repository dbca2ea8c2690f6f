"""The lines of a plan, written and read."""

from tinkerhall.plans import Plan
from tinkerhall.reading import Lines


def write_plan(plan):
    """The lines of the plan."""
    lines = [f"entry {name}" for name in plan.entries]
    for name, kinds, sources, minutes in plan.places:
        lines.append(" ".join(["place", name, str(minutes), *kinds, "from", *sources]))
    lines.append(" ".join(["exit", *plan.exits]))
    return tuple(lines)


def read_plan(catalogue, lines):
    """The plan over the catalogue that the lines tell."""
    reader = Lines(lines)
    entries, places, exits = take_plan(reader)
    reader.finish()
    return Plan(catalogue, entries, places, exits)


def take_plan(reader):
    """What the next lines, up to and with the exits, tell of a plan; nothing is judged yet."""
    entries = []
    while reader.first_word() == "entry":
        words = reader.begin("entry")
        entries.append(words.take_name())
        words.finish()
    places = []
    while reader.first_word() == "place":
        places.append(_take_place(reader))
    words = reader.begin("exit")
    exits = _take_names(words, 1, 2)
    words.finish()
    return tuple(entries), tuple(places), exits


def _take_place(reader):
    words = reader.begin("place")
    name = words.take_name()
    minutes = words.take_number(1, 60)
    kinds = _take_names(words, 1, 3)
    words.take_word("from")
    sources = _take_names(words, 0, 2)
    words.finish()
    return name, kinds, sources, minutes


def _take_names(words, fewest, most):
    """So many names, up to the end of the line or the word that ends them."""
    names = []
    while len(names) < fewest or (len(names) < most and words.coming() not in (None, "from")):
        names.append(words.take_name())
    return tuple(names)
