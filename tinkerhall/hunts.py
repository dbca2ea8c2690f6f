"""Searches through the states of a field, step by step, for the least row that makes a hit.

A field has a `start`, the `steps` that can be done, ascending, and `meetings(state, inputs)`: what a step can lead
to, as rows (label, whether it is a hit, state behind).
"""


def listed(field):
    """All states in the order in which they are found, or None if a hit can be made."""
    found = {field.start: True}
    states = [field.start]
    at = 0
    while at < len(states):
        state = states[at]
        at += 1
        for inputs in field.steps:
            for _, hits, behind in field.meetings(state, inputs):
                if hits:
                    return None
                if behind not in found:
                    found[behind] = True
                    states.append(behind)
    return tuple(states)


def least_hit(field):
    """The least row whose last step can be a hit, and the first row of labels with which it is.

    Only for fields in which a hit can be made.
    """
    goals = _goals(field)
    row = _least_row(field, goals)
    return row, _first_labels(field, goals, row)


def _serving(field, state, inputs, goal):
    """The labels and states behind by which this step reaches the goal.

    The goal is a dict of states, or None for the last step, which is to be a hit.
    """
    if goal is None:
        return [(label, behind) for label, hits, behind in field.meetings(state, inputs) if hits]
    return [(label, behind) for label, _, behind in field.meetings(state, inputs) if behind in goal]


def _can_serve(field, state, goal):
    return any([_serving(field, state, inputs, goal) != [] for inputs in field.steps])


def _levels(field):
    """The states by the fewest steps that lead to them, up to the first from which a step can be a hit."""
    found = {field.start: True}
    levels = [[field.start]]
    while not any([_can_serve(field, state, None) for state in levels[-1]]):
        level = []
        for state in levels[-1]:
            for inputs in field.steps:
                for _, _, behind in field.meetings(state, inputs):
                    if behind not in found:
                        found[behind] = True
                        level.append(behind)
        levels.append(level)
    return levels


def _goals(field):
    """For each step of a shortest row, the states behind it from which the rest can be done."""
    levels = _levels(field)
    goals = [None]
    for depth in reversed(range(1, len(levels))):
        goals = [{state: True for state in levels[depth] if _can_serve(field, state, goals[0])}, *goals]
    return goals


def _least_row(field, goals):
    row = []
    states = [field.start]
    for goal in goals:
        for inputs in field.steps:
            met = {behind: True for state in states for _, behind in _serving(field, state, inputs, goal)}
            if met:
                break
        row.append(inputs)
        states = list(met)
    return tuple(row)


def _first_labels(field, goals, row):
    fitting = [None]
    for depth in reversed(range(1, len(row))):
        fitting = [{state: True for state in goals[depth - 1] if _serving(field, state, row[depth], fitting[0])},
                   *fitting]
    labels = []
    states = [field.start]
    for inputs, goal in zip(row, fitting):
        served = [told for state in states for told in _serving(field, state, inputs, goal)]
        first = min([label for label, _ in served])
        labels.append(first)
        met = {behind: True for label, behind in served if label == first}
        states = list(met)
    return tuple(labels)
