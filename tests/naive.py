"""What the document says of machines, done as plainly and slowly as its words, to compare with."""

import itertools


def all_tuples(choices):
    """All tuples with one of the choices at each place, ascending."""
    return list(itertools.product(*choices))


def all_inputs(plan):
    return all_tuples([range(plan.catalogue.signs)] * len(plan.entries))


def all_comings(plan, filling):
    kinds = [plan.catalogue[name] for name, _ in filling]
    return all_tuples([(0, 1) if kind.flees(pair[1]) else (0,) for kind, pair in zip(kinds, filling)])


def beginning(plan, filling):
    starts = [plan.catalogue[name].start for name, _ in filling]
    return tuple(start for start in starts if start is not None)


def part_table(plan, pair, comes):
    kind = plan.catalogue[pair[0]]
    if pair[1] == 0:
        return kind.table
    word, _, table = kind.ways[pair[1] - 1]
    return table if word == "stands" or comes else kind.table


def step(plan, filling, standing, inputs, coming):
    signs = plan.catalogue.signs
    kept = dict(zip([place[0] for place in plan.places if plan.catalogue[place[1][0]].start is not None], standing))
    numbers = {place[0]: at for at, place in enumerate(plan.places)}

    def entry_of_table(name, at):
        for source in plan.places[numbers[name]][2]:
            at = at * signs + show(source)
        return part_table(plan, filling[numbers[name]], coming[numbers[name]])[at]

    def show(name):
        if name in plan.entries:
            return inputs[plan.entries.index(name)]
        return kept[name] if name in kept else entry_of_table(name, 0)

    shown = tuple(show(name) for name in (*plan.entries, *numbers))
    return shown, tuple(entry_of_table(name, kept[name]) for name in kept)


def run(plan, filling, row, comings):
    standing = beginning(plan, filling)
    rows = []
    for at, inputs in enumerate(row):
        coming = comings[at] if at < len(comings) else (0,) * len(plan.places)
        shown, standing = step(plan, filling, standing, inputs, coming)
        rows.append(shown)
    return tuple(rows)


def at_lines(plan, shown, names):
    lines = [*plan.entries, *[place[0] for place in plan.places]]
    return tuple(shown[lines.index(name)] for name in names)


def standings(plan, filling):
    listed = [beginning(plan, filling)]
    for standing in listed:
        for inputs in all_inputs(plan):
            for coming in all_comings(plan, filling):
                behind = step(plan, filling, standing, inputs, coming)[1]
                if behind not in listed:
                    listed.append(behind)
    return tuple(listed)


def showings(plan, filling, row, names):
    many = [all_comings(plan, filling)] * len(row)
    found = {tuple(at_lines(plan, shown, names) for shown in run(plan, filling, row, comings))
             for comings in itertools.product(*many)}
    return tuple(sorted(found))


def first_difference(plan, filling, most):
    """The least row of at most so many steps, and its first comings, that part a filling from the own one."""
    own = tuple((place[1][0], 0) for place in plan.places)
    for many in range(1, most + 1):
        for row in itertools.product(all_inputs(plan), repeat=many):
            wanted = at_lines(plan, run(plan, own, row, ())[-1], plan.exits)
            for comings in itertools.product(all_comings(plan, filling), repeat=many):
                if at_lines(plan, run(plan, filling, row, comings)[-1], plan.exits) != wanted:
                    return row, comings
    return None


def pair_table(plan, filling):
    own = tuple((place[1][0], 0) for place in plan.places)
    listed = [(beginning(plan, own), beginning(plan, filling))]
    for first, second in listed:
        for inputs in all_inputs(plan):
            for coming in all_comings(plan, filling):
                pair = (step(plan, own, first, inputs, (0,) * len(own))[1],
                        step(plan, filling, second, inputs, coming)[1])
                if pair not in listed:
                    listed.append(pair)
    return tuple(listed)


def first_parting(plan, filling, lines, other, other_filling, other_lines, most):
    """The least row of at most so many steps that parts two fillings without fleeing conditions."""
    for many in range(1, most + 1):
        for row in itertools.product(all_inputs(plan), repeat=many):
            if (at_lines(plan, run(plan, filling, row, ())[-1], lines)
                    != at_lines(other, run(other, other_filling, row, ())[-1], other_lines)):
                return row
    return None


def pairs_of_two(plan, filling, other, other_filling):
    none, other_none = (0,) * len(filling), (0,) * len(other_filling)
    listed = [(beginning(plan, filling), beginning(other, other_filling))]
    for first, second in listed:
        for inputs in all_inputs(plan):
            pair = (step(plan, filling, first, inputs, none)[1], step(other, other_filling, second, inputs, other_none)[1])
            if pair not in listed:
                listed.append(pair)
    return tuple(listed)


def shows(plan, filling, row, comings, sights):
    shown = run(plan, filling, row, comings)
    return all(at_lines(plan, shown[at], (line,)) == (sign,) for at, line, sign in sights)


def can_show(plan, filling, row, sights):
    many = [all_comings(plan, filling)] * len(row)
    return any(shows(plan, filling, row, comings, sights) for comings in itertools.product(*many))


def fewest_comings(plan, filling, row, sights):
    many = [all_comings(plan, filling)] * len(row)
    explaining = [comings for comings in itertools.product(*many) if shows(plan, filling, row, comings, sights)]
    return min(explaining, key=lambda comings: (sum(map(sum, comings)), comings), default=None)


def standings_by_showing(plan, filling, row, names):
    """For each showing of a row, which can be empty, the standings that it can lead to."""
    ends = {((), beginning(plan, filling))}
    for inputs in row:
        behind = set()
        for showing, standing in ends:
            for coming in all_comings(plan, filling):
                shown, after = step(plan, filling, standing, inputs, coming)
                behind.add(((*showing, at_lines(plan, shown, names)), after))
        ends = behind
    found = {}
    for showing, standing in ends:
        found.setdefault(showing, set()).add(standing)
    return found


def first_uncovered(plan, filling, other_filling, names, most):
    """The least row and the first showing that only the other filling has."""
    for many in range(1, most + 1):
        for row in itertools.product(all_inputs(plan), repeat=many):
            own = standings_by_showing(plan, filling, row, names)
            left = [showing for showing in standings_by_showing(plan, other_filling, row, names) if showing not in own]
            if left:
                return row, min(left)
    return None


def shared_pairs(plan, first, second, row, names):
    """The pairs of standings that both can have behind the row with the same showing."""
    left = standings_by_showing(plan, first, row, names)
    right = standings_by_showing(plan, second, row, names)
    return tuple(sorted({(one, two) for showing in left if showing in right
                         for one in left[showing] for two in right[showing]}))


def first_sure_parting(plan, first, second, names, most):
    for many in range(1, most + 1):
        for row in itertools.product(all_inputs(plan), repeat=many):
            if not shared_pairs(plan, first, second, row, names):
                return row
    return None
