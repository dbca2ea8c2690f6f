"""Looks through the runs of a manual for the least row of signs that leads to something.

What is looked through has a `start` and `walked(state)`: from this state on, what is found ahead of the next look, or
None, and what that look can lead to, as pairs (sign, state behind), ascending.
"""


def least_signs(field):
    """The least row of the fewest signs that lead to something, and what is found; None if nothing is."""
    met = {field.start: True}
    level = [((), field.start)]
    # Level by level, each in the order of its rows, so that the first row that comes to a state is the least one.
    while level:
        behind = []
        for signs, state in level:
            found, ways = field.walked(state)
            if found is not None:
                return signs, found
            for sign, other in ways:
                if other not in met:
                    met[other] = True
                    behind.append(((*signs, sign), other))
        # A list of its own, so that what the loop walks is never what is appended to.
        level = list(behind)
    return None
