"""The lines of a catalogue, written and read."""

from tinkerhall.kinds import Catalogue, Kind
from tinkerhall.reading import Lines
from tinkerhall.signs import write_digits


def write_catalogue(catalogue):
    """The lines of the catalogue."""
    lines = [f"signs {catalogue.signs}"]
    for kind in catalogue:
        lines.append(f"kind {kind.name} {kind.inputs} {kind.price}")
        if kind.keeps:
            lines.append(f"keeps {kind.start}")
        lines.append(f"table {write_digits(kind.table)}")
        for word, name, table in kind.ways:
            lines.append(f"{word} {name} {write_digits(table)}")
    return tuple(lines)


def read_catalogue(lines):
    """The catalogue that the lines tell."""
    reader = Lines(lines)
    told = take_catalogue(reader)
    reader.finish()
    return made_catalogue(told)


def take_catalogue(reader):
    """What the next lines tell of a catalogue, as far as they do; nothing is judged yet."""
    words = reader.begin("signs")
    signs = words.take_number(2, 3)
    words.finish()
    kinds = []
    while reader.first_word() == "kind":
        kinds.append(_take_kind(reader))
    return signs, kinds


def made_catalogue(told):
    """The catalogue of what was told, with the errors of its kinds, then its own."""
    signs, kinds = told
    return Catalogue(signs, [Kind(signs, name, inputs, table, start=start, ways=ways, price=price)
                             for name, inputs, price, start, table, ways in kinds])


def _take_kind(reader):
    words = reader.begin("kind")
    name = words.take_name()
    inputs = words.take_number(0, 2)
    price = words.take_number(0, 600)
    words.finish()
    start = None
    if reader.first_word() == "keeps":
        words = reader.begin("keeps")
        start = words.take_number(0, 2)
        words.finish()
    words = reader.begin("table")
    table = words.take_digits()
    words.finish()
    ways = []
    while reader.first_word() in ("stands", "flees"):
        ways.append(_take_way(reader))
    return name, inputs, price, start, table, ways


def _take_way(reader):
    word = reader.first_word()
    words = reader.begin(word)
    name = words.take_name()
    table = words.take_digits()
    words.finish()
    return word, name, table
