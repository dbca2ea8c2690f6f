"""What is passed beside a plan, judged: fillings, rows, sights and lines."""

from tinkerhall.errors import BadFilling, BadRow, BadSights, BadTest, Flees, Unknown
from tinkerhall.forms import are_signs, is_list, is_number
from tinkerhall.signs import is_row

MOST_STEPS = 60
MOST_SIGHTS = 6


def good_filling(plan, filling):
    """The filling as tuples, if it is one of the plan."""
    if not is_list(filling) or len(filling) != len(plan.places):
        raise BadFilling(-1)
    for at, pair in enumerate(filling):
        if not _is_pair(plan.catalogue, plan.places[at][1], pair):
            raise BadFilling(at)
    return tuple([tuple(pair) for pair in filling])


def good_row(plan, row, most=MOST_STEPS):
    """The row as tuples, if it is one for the plan with at most so many steps."""
    if not is_list(row) or not 1 <= len(row) <= most:
        raise BadRow(-1)
    for at, inputs in enumerate(row):
        if not are_signs(inputs, plan.catalogue.signs, len(plan.entries)):
            raise BadRow(at)
    return tuple([tuple(inputs) for inputs in row])


def judge_tests(plan, tests):
    """Bars a test whose row is no row for the plan."""
    for name, row in tests:
        if not is_row(row, plan.catalogue.signs, len(plan.entries)):
            raise BadTest(name)


def good_sights(plan, row, sights):
    """The sights as tuples, if they can be seen on the row."""
    if not is_list(sights) or not 1 <= len(sights) <= MOST_SIGHTS:
        raise BadSights(-1)
    seen = []
    for at, sight in enumerate(sights):
        if not _is_sight(plan, row, sight) or tuple(sight[:2]) in seen:
            raise BadSights(at)
        seen.append(tuple(sight[:2]))
    return tuple([tuple(sight) for sight in sights])


def good_lines(plan, lines=None):
    """The watched lines as a tuple: those told, or the exits."""
    if lines is None:
        return plan.exits
    for name in lines:
        if name not in plan.lines:
            raise Unknown(name)
    return tuple(lines)


def no_fleeing(plan, filling):
    """Bars a good filling with a fleeing condition."""
    for at, (name, condition) in enumerate(filling):
        if plan.catalogue[name].flees(condition):
            raise Flees(at)


def _is_pair(catalogue, names, thing):
    if not is_list(thing) or len(thing) != 2 or thing[0] not in names:
        return False
    return is_number(thing[1], 0, len(catalogue[thing[0]]))


def _is_sight(plan, row, thing):
    if not is_list(thing) or len(thing) != 3:
        return False
    step, line, sign = thing
    return (is_number(step, 0, len(row) - 1) and line in plan.lines
            and is_number(sign, 0, plan.catalogue.signs - 1))
