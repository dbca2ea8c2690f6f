"""Tables of nodes with their values, told and judged."""

from tinkerhall.arrangements import are_worlds, is_arrangement
from tinkerhall.forms import as_tuples, is_count, is_list, is_number
from tinkerhall.nodework import NodeWork
from tinkerhall.webs import NONE, Web, value_by


def value_table(case, menu, goal=None):
    """The nodes, in order, with their values."""
    web = Web(case, menu, goal)
    return tuple([(*node, value) for node, value in zip(web.nodes, web.worths())])


def judge_values(case, menu, table, goal=None):
    """None if the table is right; otherwise -1 if it lacks the beginning, or the first row that does not fit."""
    work = NodeWork(case, goal)
    rows = table if is_list(table) else ()
    told = [as_tuples(row) if _is_row(case, row) else None for row in rows]
    first = {}
    for row in told:
        if row is not None:
            first.setdefault(row[:2], row[2])
    if work.first_node() not in first:
        return -1
    for at, row in enumerate(told):
        if row is None or not _fits(work, menu, first, row):
            return at
    return None


def _is_row(case, thing):
    """Whether a thing tells a node, which need not be one that is reached, and a value."""
    if not is_list(thing) or len(thing) != 3:
        return False
    arrangement, left, value = thing
    return (is_arrangement(case, arrangement) and are_worlds(case, left)
            and (is_count(value) or is_number(value, NONE, NONE)))


def _fits(work, menu, first, row):
    """Whether a row fits; `first` tells the values of all nodes that the table has."""
    node = row[:2]
    if not node[1]:
        return False
    rows = []
    for deed in work.deeds_of(menu, node):
        led = work.led_to(menu, node, deed)
        if not all([follower in first for _, follower in led]):
            return False
        rows.append((work.minutes_of(menu, deed), [first[follower] for _, follower in led]))
    return row[2] == value_by(work.meets(node), rows)
