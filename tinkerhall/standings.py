"""The standings of a filling, and its least table."""

from tinkerhall.checks import good_filling, good_lines, no_fleeing
from tinkerhall.drives import Drive


def standings(plan, filling):
    """The standings that a machine can have, in the order in which they are found."""
    return tuple(Drive(plan, good_filling(plan, filling)).reached())


def least_table(plan, filling, lines=None):
    """For each lot of standings that show the same, what each tuple of inputs leads to."""
    filling = good_filling(plan, filling)
    no_fleeing(plan, filling)
    drive = Drive(plan, filling, good_lines(plan, lines))
    return _told_lots(drive, _lots(drive))


def _moves(drive, standing):
    """For each tuple of inputs the watched signs and the standing behind; nothing flees here."""
    return [drive.outcomes(standing, inputs)[0][1:] for inputs in drive.steps]


def _lots(drive):
    """For each standing the number of its lot, in any order."""
    reached = drive.reached()
    lots = {standing: 0 for standing in reached}
    many = 0
    marks = {None: 0}
    # One round more tells apart what one more step tells apart.
    while many < len(marks):
        many = len(marks)
        marks = {}
        finer = {}
        for standing in reached:
            mark = tuple([(shown, lots[behind]) for shown, behind in _moves(drive, standing)])
            finer[standing] = marks.setdefault(mark, len(marks))
        lots = finer
    return lots


def _told_lots(drive, lots):
    """The table of the lots, numbered from that of the beginning."""
    numbers = {lots[drive.start]: 0}
    listed = [drive.start]
    table = []
    while len(table) < len(listed):
        row = []
        standing = listed[len(table)]
        for shown, behind in _moves(drive, standing):
            if lots[behind] not in numbers:
                numbers[lots[behind]] = len(listed)
                listed.append(behind)
            row.append((shown, numbers[lots[behind]]))
        table.append(tuple(row))
    return tuple(table)
