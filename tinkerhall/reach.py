"""All standings of a manual on a case."""

from tinkerhall.errors import TooMany

MOST_STANDINGS = 4000


class Reach:
    """The standings in the order in which they are found, told by their numbers.

    `after` has for each the numbers of its followers, `events` the event of the step that is due (None for a look,
    and where there is none), `bills` what the step takes.
    """

    def __init__(self, work):
        self.work = work
        self.standings = [work.first_standing()]
        self.after = []
        self.events = []
        self.bills = []
        numbers = {self.standings[0]: 0}
        while len(self.after) < len(self.standings):
            followers, event, bill = work.expanded(self.standings[len(self.after)])
            for follower in followers:
                if follower not in numbers:
                    numbers[follower] = len(numbers)
                    self.standings.append(follower)
            if len(self.standings) > MOST_STANDINGS:
                raise TooMany("standing")
            self.after.append([numbers[follower] for follower in followers])
            self.events.append(event)
            self.bills.append(bill)
        # Followers stand at later steps; so in this order each standing comes behind its followers.
        ordered = sorted([(standing[0], number) for number, standing in enumerate(self.standings)], reverse=True)
        self.latest_first = [number for _, number in ordered]

    def due_at(self, number):
        """The step that is due."""
        return self.work.steps[self.standings[number][0]]

    def after_in(self, number, world):
        """The followers that a run in this world can come to."""
        return [follower for follower in self.after[number] if world in self.standings[follower][3]]

    def by_worlds(self):
        """For each world the standings that runs in it come to, each behind its followers."""
        lists = [[] for _ in range(len(self.work.case))]
        for number in self.latest_first:
            for world in self.standings[number][3]:
                lists[world].append(number)
        return lists
