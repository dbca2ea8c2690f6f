"""What can be seen of a filling when parts come and go."""

from tinkerhall.checks import good_filling, good_lines, good_row, good_sights
from tinkerhall.drives import Drive
from tinkerhall.errors import TooMany

MOST_SHOWINGS = 500


def comings_of(plan, filling, many):
    """All rows of so many comings that the filling can have, ascending."""
    choices = Drive(plan, good_filling(plan, filling)).comings
    chosen = [0] * many
    at = many
    # Like a counter: the last coming that can grow grows, and all behind it begin anew.
    while at >= 0:
        yield tuple([choices[number] for number in chosen])
        at = many - 1
        while at >= 0 and chosen[at] == len(choices) - 1:
            chosen[at] = 0
            at -= 1
        if at >= 0:
            chosen[at] += 1


def showings(plan, filling, row, lines=None):
    """All showings of the row at the watched lines, ascending."""
    filling = good_filling(plan, filling)
    row = good_row(plan, row)
    drive = Drive(plan, filling, good_lines(plan, lines))
    begun = {(): (drive.start,)}
    for inputs in row:
        begun = {(*showing, watched): behind for showing, standings in begun.items()
                 for watched, behind in drive.spread(standings, inputs).items()}
        # Each beginning of a showing goes on to at least one showing.
        if len(begun) > MOST_SHOWINGS:
            raise TooMany("showing")
    return tuple(sorted(begun))


def shows(plan, filling, row, sights):
    """Whether the filling shows these sights on the row, for some comings."""
    filling = good_filling(plan, filling)
    row = good_row(plan, row)
    sights = good_sights(plan, row, sights)
    lines = [line for _, line, _ in sights]
    drive = Drive(plan, filling, lines)
    standings = (drive.start,)
    # Behind the last sight the machine can always go on.
    for at in range(max([step for step, _, _ in sights]) + 1):
        wanted = [(number, sight[2]) for number, sight in enumerate(sights) if sight[0] == at]
        standings = _standings_seen(drive, standings, row[at], wanted)
    return standings != ()


def readable(plan, filling, row, line):
    """The signs that can be read at the line behind the row, ascending."""
    filling = good_filling(plan, filling)
    row = good_row(plan, row)
    drive = Drive(plan, filling, good_lines(plan, (line,)))
    standings = (drive.start,)
    for inputs in row[:-1]:
        standings = _standings_seen(drive, standings, inputs, ())
    return tuple(sorted([watched[0] for watched in drive.spread(standings, row[-1])]))


def _standings_seen(drive, standings, inputs, wanted):
    """The standings behind a step that shows the wanted signs, told by numbers of watched lines."""
    met = {}
    for watched, behind in drive.spread(standings, inputs).items():
        if all([watched[number] == sign for number, sign in wanted]):
            for standing in behind:
                met[standing] = True
    return tuple(sorted(met))
