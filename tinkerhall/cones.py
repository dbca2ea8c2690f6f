"""What a line hangs on, and how late it does."""

from tinkerhall.errors import Unknown


def cone(plan, line):
    """The lines on which this line hangs, in the order of the plan."""
    found = _fewest_keeping(plan, line)
    return tuple([name for name in plan.lines if name in found])


def delay(plan, entry, line):
    """The fewest places that keep on a way from the line to the entry, or None if there is no way."""
    if entry not in plan.entries:
        raise Unknown(entry)
    return _fewest_keeping(plan, line).get(entry)


def _fewest_keeping(plan, line):
    """For each line on which this one hangs, the fewest places that keep on a way to it."""
    if line not in plan.lines:
        raise Unknown(line)
    sources = {place[0]: place[2] for place in plan.places}
    fewest = {line: _keeps(plan, line)}
    waiting = [line]
    while waiting:
        name = waiting.pop()
        for source in sources.get(name, ()):
            many = fewest[name] + _keeps(plan, source)
            if source not in fewest or many < fewest[source]:
                fewest[source] = many
                waiting.append(source)
    return fewest


def _keeps(plan, line):
    return 1 if line in plan.keeping else 0
