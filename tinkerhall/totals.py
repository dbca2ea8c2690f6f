"""What a manual takes on a case: minutes, price, and parts of the shelf."""

from tinkerhall.reach import Reach
from tinkerhall.runs import Work


def bills(case, manual):
    """For each world the least and most minutes, and the least and most price, of its ended runs."""
    return tuple(bills_by_world(Reach(Work(case, manual))))


def most_minutes(case, manual):
    """The most minutes in any world, and the first world with them."""
    most = [told[1] for told in bills_by_world(Reach(Work(case, manual)))]
    return max(most), most.index(max(most))


def needs(case, manual):
    """How many parts must be on the shelf at the beginning, counted from its front."""
    reach = Reach(Work(case, manual))
    # With fewer, just the swaps that take a part further behind would go another way.
    put = [event[2] for event in reach.events if event is not None and event[0] == "swap"]
    return max([0, *[case.shelf.index(part) + 1 for part in put if part in case.shelf]])


def bills_by_world(reach):
    """For each world (least minutes, most minutes, least price, most price) of its ended runs."""
    told = []
    for numbers in reach.by_worlds():
        ends = {}
        for number in numbers:
            bill = reach.bills[number]
            behind = [ends[follower] for follower in reach.after[number] if follower in ends]
            ends[number] = _with_bill(behind or [(0, 0, 0, 0)], bill.minutes, bill.price)
        told.append(ends[0])
    return told


def most_from(reach):
    """For each standing the most minutes that a run, in any world left, takes from there on."""
    most = [0] * len(reach.standings)
    for number in reach.latest_first:
        most[number] = reach.bills[number].minutes + max([0, *[most[follower] for follower in reach.after[number]]])
    return most


def _with_bill(ends, minutes, price):
    return (min([end[0] for end in ends]) + minutes, max([end[1] for end in ends]) + minutes,
            min([end[2] for end in ends]) + price, max([end[3] for end in ends]) + price)
