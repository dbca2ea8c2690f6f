"""What the document says of machines, done as plainly and slowly as its words, to compare with."""

import itertools


def all_tuples(choices):
    """All tuples with one of the choices at each place, ascending."""
    return list(itertools.product(*choices))


def all_inputs(plan):
    return all_tuples([range(plan.catalogue.signs)] * len(plan.entries))


def all_comings(plan, filling):
    kinds = [plan.catalogue[name] for name, _ in filling]
    return all_tuples([(0, 1) if kind.flees(pair[1]) else (0,) for kind, pair in zip(kinds, filling)])


def beginning(plan, filling):
    starts = [plan.catalogue[name].start for name, _ in filling]
    return tuple(start for start in starts if start is not None)


def part_table(plan, pair, comes):
    kind = plan.catalogue[pair[0]]
    if pair[1] == 0:
        return kind.table
    word, _, table = kind.ways[pair[1] - 1]
    return table if word == "stands" or comes else kind.table


def step(plan, filling, standing, inputs, coming):
    signs = plan.catalogue.signs
    kept = dict(zip([place[0] for place in plan.places if plan.catalogue[place[1][0]].start is not None], standing))
    numbers = {place[0]: at for at, place in enumerate(plan.places)}

    def entry_of_table(name, at):
        for source in plan.places[numbers[name]][2]:
            at = at * signs + show(source)
        return part_table(plan, filling[numbers[name]], coming[numbers[name]])[at]

    def show(name):
        if name in plan.entries:
            return inputs[plan.entries.index(name)]
        return kept[name] if name in kept else entry_of_table(name, 0)

    shown = tuple(show(name) for name in (*plan.entries, *numbers))
    return shown, tuple(entry_of_table(name, kept[name]) for name in kept)


def run(plan, filling, row, comings):
    standing = beginning(plan, filling)
    rows = []
    for at, inputs in enumerate(row):
        coming = comings[at] if at < len(comings) else (0,) * len(plan.places)
        shown, standing = step(plan, filling, standing, inputs, coming)
        rows.append(shown)
    return tuple(rows)


def at_lines(plan, shown, names):
    lines = [*plan.entries, *[place[0] for place in plan.places]]
    return tuple(shown[lines.index(name)] for name in names)


def standings(plan, filling):
    listed = [beginning(plan, filling)]
    for standing in listed:
        for inputs in all_inputs(plan):
            for coming in all_comings(plan, filling):
                behind = step(plan, filling, standing, inputs, coming)[1]
                if behind not in listed:
                    listed.append(behind)
    return tuple(listed)


def showings(plan, filling, row, names):
    many = [all_comings(plan, filling)] * len(row)
    found = {tuple(at_lines(plan, shown, names) for shown in run(plan, filling, row, comings))
             for comings in itertools.product(*many)}
    return tuple(sorted(found))


def first_difference(plan, filling, most):
    """The least row of at most so many steps, and its first comings, that part a filling from the own one."""
    own = tuple((place[1][0], 0) for place in plan.places)
    for many in range(1, most + 1):
        for row in itertools.product(all_inputs(plan), repeat=many):
            wanted = at_lines(plan, run(plan, own, row, ())[-1], plan.exits)
            for comings in itertools.product(all_comings(plan, filling), repeat=many):
                if at_lines(plan, run(plan, filling, row, comings)[-1], plan.exits) != wanted:
                    return row, comings
    return None


def pair_table(plan, filling):
    own = tuple((place[1][0], 0) for place in plan.places)
    listed = [(beginning(plan, own), beginning(plan, filling))]
    for first, second in listed:
        for inputs in all_inputs(plan):
            for coming in all_comings(plan, filling):
                pair = (step(plan, own, first, inputs, (0,) * len(own))[1],
                        step(plan, filling, second, inputs, coming)[1])
                if pair not in listed:
                    listed.append(pair)
    return tuple(listed)
