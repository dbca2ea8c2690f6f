"""What the table of a kind alone tells."""

from tinkerhall.signs import all_steps


def needless(kind):
    """The numbers of the inputs that change nothing, ascending."""
    return tuple([number for number in range(kind.inputs) if _is_needless(kind, number)])


def can_give(kind, condition=0):
    """The signs that a part in this condition can give, ascending."""
    tables = kind.tables(condition)
    if not kind.keeps:
        return tuple(sorted({sign for table in tables for sign in table}))
    given = [kind.start]
    at = 0
    while at < len(given):
        for inputs in all_steps(kind.signs, kind.inputs):
            for table in tables:
                sign = table[kind.spot(inputs, given[at])]
                if sign not in given:
                    given.append(sign)
        at += 1
    return tuple(sorted(given))


def _is_needless(kind, number):
    for kept in range(kind.signs if kind.keeps else 1):
        for inputs in all_steps(kind.signs, kind.inputs):
            other = (*inputs[:number], 0, *inputs[number + 1:])
            if kind.table[kind.spot(inputs, kept)] != kind.table[kind.spot(other, kept)]:
                return False
    return True
