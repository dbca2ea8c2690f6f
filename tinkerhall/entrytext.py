"""The line of an entry, written and read."""

from tinkerhall.entries import FORMS, MOST_BUILT, MOST_TOLD
from tinkerhall.reading import Lines
from tinkerhall.signs import write_steps

MOST_NUMBER = 99
MOST_STEPS = 8
MOST_SIGHTS = 6
MOST_SIGN = 2


def write_entry(entry):
    """The line of the entry."""
    forms = FORMS[entry[0]]
    told = [_written(part, form) for part, form in zip(entry[1:], forms)]
    return " ".join([entry[0], *[word for words in told for word in words]])


def read_entry(line):
    """The entry that the line tells."""
    return take_entry(Lines((line,)))


def take_entry(reader):
    """The entry that the next line tells."""
    allowed = list(FORMS)
    word = reader.first_word()
    words = reader.begin(*allowed)
    told = [_taken(words, form) for form in FORMS[word]]
    words.finish()
    return (word, *told)


def _written(part, form):
    """The words of a part of an entry."""
    if form == "parts":
        return [str(number) for number in part]
    if form == "row":
        return ["row", write_steps(part)]
    if form == "sights":
        return ["sights", *[f"{step} {line} {sign}" for step, line, sign in part]]
    return [str(part)]


def _taken(words, form):
    if form == "name":
        return words.take_name()
    if form == "number":
        return words.take_number(0, MOST_NUMBER)
    if form == "bound":
        return words.take_number(0, MOST_TOLD)
    if form == "parts":
        return _taken_parts(words)
    return _taken_row(words) if form == "row" else _taken_sights(words)


def _taken_parts(words):
    parts = []
    while len(parts) < MOST_BUILT and words.coming() is not None:
        parts.append(words.take_number(0, MOST_NUMBER))
    return tuple(parts)


def _taken_row(words):
    words.take_word("row")
    row = [words.take_step()]
    while len(row) < MOST_STEPS and words.coming() != "sights":
        row.append(words.take_step())
    return tuple(row)


def _taken_sights(words):
    words.take_word("sights")
    sights = [_taken_sight(words)]
    while len(sights) < MOST_SIGHTS and words.coming() is not None:
        sights.append(_taken_sight(words))
    return tuple(sights)


def _taken_sight(words):
    step = words.take_number(0, MOST_NUMBER)
    line = words.take_name()
    return step, line, words.take_number(0, MOST_SIGN)
