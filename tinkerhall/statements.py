"""The forms of what a manual is made of: tests, and statements in bodies."""

from tinkerhall.forms import are_different, is_list, is_number
from tinkerhall.signs import is_name, is_row

MOST_TESTS = 8
MOST_TEST_STEPS = 8
MOST_DEPTH = 150
MOST_REPEATS = 4
MOST_SIGN = 2

# For each word what stands behind it.
STATEMENTS = {
    "look": ("name", "name"),
    "swap": ("name",),
    "back": ("name",),
    "say": ("name",),
    "if": ("signs", "body", "body"),
    "repeat": ("times", "body"),
    "leave": (),
    "call": ("name",),
    "done": (),
    "quit": (),
}


def are_tests(thing):
    """Whether a thing is a tuple of tests; two of them may have one name."""
    return is_list(thing) and len(thing) <= MOST_TESTS and all([_is_test(test) for test in thing])


def is_statement(thing):
    """Whether a thing has the form of a statement; of its bodies only that they are tuples."""
    if not is_list(thing) or len(thing) == 0 or not isinstance(thing[0], str) or thing[0] not in STATEMENTS:
        return False
    forms = STATEMENTS[thing[0]]
    return len(thing) == len(forms) + 1 and all([_has_form(part, form) for part, form in zip(thing[1:], forms)])


def bodies_in(statement):
    """The bodies that stand in a statement, in order."""
    if statement[0] == "if":
        return [statement[2], statement[3]]
    return [statement[2]] if statement[0] == "repeat" else []


def is_body(thing):
    """Whether all statements of a body, at any depth, are good and stand in few enough bodies."""
    waiting = [(statement, 1) for statement in thing]
    while waiting:
        statement, depth = waiting.pop()
        if depth > MOST_DEPTH or not is_statement(statement):
            return False
        waiting.extend([(inner, depth + 1) for body in bodies_in(statement) for inner in body])
    return True


def all_statements(body):
    """All statements of a good body, at any depth, each ahead of those in it."""
    found = []
    waiting = list(body[::-1])
    while waiting:
        statement = waiting.pop()
        found.append(statement)
        for inner in bodies_in(statement)[::-1]:
            waiting.extend(list(inner[::-1]))
    return found


def _is_test(thing):
    if not is_list(thing) or len(thing) != 2 or not is_name(thing[0]):
        return False
    row = thing[1]
    return any([is_row(row, MOST_SIGN + 1, width, MOST_TEST_STEPS) for width in range(3)])


def _has_form(thing, form):
    if form == "name":
        return is_name(thing)
    if form == "times":
        return is_number(thing, 1, MOST_REPEATS)
    if form == "body":
        return is_list(thing)
    if not is_list(thing) or not 1 <= len(thing) or not all([is_number(sign, 0, MOST_SIGN) for sign in thing]):
        return False
    return are_different(thing) and list(thing) == sorted(thing)
