"""The comings of parts that explain what was seen."""

from tinkerhall.checks import good_filling, good_row, good_sights
from tinkerhall.drives import Drive


def explained(plan, filling, row, sights):
    """The first row of the fewest comings for which the sights are shown, or None."""
    filling = good_filling(plan, filling)
    row = good_row(plan, row)
    sights = good_sights(plan, row, sights)
    drive = Drive(plan, filling, [line for _, line, _ in sights])
    passing = _passing(drive, row, sights)
    costs = _costs(passing)
    if drive.start not in costs[0]:
        return None
    comings = []
    standing = drive.start
    for moves, behind in zip(passing, costs[1:]):
        _, coming, standing = min([(sum(coming) + behind[there], coming, there)
                                   for coming, there in moves[standing] if there in behind])
        comings.append(coming)
    return tuple(comings)


def _passing(drive, row, sights):
    """For each step, from each standing that it can begin with, what leads on: rows (coming, standing behind)."""
    passing = []
    standings = [drive.start]
    for at, inputs in enumerate(row):
        wanted = [(number, sight[2]) for number, sight in enumerate(sights) if sight[0] == at]
        moves = {standing: _moves(drive, standing, inputs, wanted) for standing in standings}
        passing.append(moves)
        met = {behind: True for standing in moves for _, behind in moves[standing]}
        standings = list(met)
    return passing


def _moves(drive, standing, inputs, wanted):
    """The comings of a step that shows what is wanted: for each standing behind the first of the fewest."""
    best = {}
    for coming in drive.comings:
        watched, behind = drive.seen(standing, inputs, coming)
        if all([watched[number] == sign for number, sign in wanted]):
            best[behind] = min(best.get(behind, (sum(coming), coming)), (sum(coming), coming))
    return [(coming, behind) for behind, (_, coming) in best.items()]


def _costs(passing):
    """Ahead of each step, and behind the last one: the fewest comings from each standing that can go on."""
    ends = {behind: 0 for moves in passing[-1:] for standing in moves for _, behind in moves[standing]}
    costs = [ends]
    for moves in reversed(list(passing)):
        ahead = {}
        for standing in moves:
            sums = [sum(coming) + costs[0][behind] for coming, behind in moves[standing] if behind in costs[0]]
            if sums:
                ahead[standing] = min(sums)
        costs = [ahead, *costs]
    return costs
