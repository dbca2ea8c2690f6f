"""What the document says of standings, verdicts and outcomes, done plainly and slowly, run by run."""

from tests import naive
from tests.repairs import plain_flow, plain_readable


class Judge:
    """A case and a manual, gone through step by step by the words of the document."""

    def __init__(self, case, manual):
        self.case, self.manual = case, manual
        self.plan = case.plan
        self.flow = plain_flow(manual)
        self.rows = dict(manual.tests)
        self.read = {}
        self.whole = {}

    def part_in(self, place, arrangement):
        return arrangement[0][[told[0] for told in self.plan.places].index(place)]

    def place(self, name):
        return [told for told in self.plan.places if told[0] == name][0]

    def price(self, part):
        return self.plan.catalogue[self.case.kinds[part]].price

    def swapped(self, name, arrangement):
        placed, shelf, bench = [list(told) for told in arrangement]
        at = [told[0] for told in self.plan.places].index(name)
        for part in shelf:
            if self.case.kinds[part] in self.plan.places[at][1]:
                shelf.remove(part)
                bench.append((name, placed[at]))
                placed[at] = part
                return tuple(placed), tuple(shelf), tuple(bench)
        return None

    def put_back(self, name, arrangement):
        placed, shelf, bench = [list(told) for told in arrangement]
        at = [told[0] for told in self.plan.places].index(name)
        for spot in range(len(bench) - 1, -1, -1):
            if bench[spot][0] == name:
                shelf.insert(0, placed[at])
                placed[at] = bench.pop(spot)[1]
                return tuple(placed), tuple(shelf), tuple(bench)
        return None

    def readable(self, step, arrangement, world):
        _, test, line, _ = self.flow[step]
        told = (test, line, arrangement[0], world)
        if told not in self.read:
            self.read[told] = plain_readable(self.case, world, arrangement, self.rows[test], line)
        return self.read[told]

    def acts(self, arrangement, world):
        """Whether the filling acts as whole: no pair of standings can ever show a difference."""
        filling = tuple((self.case.kinds[part], self.case.worlds[world][part]) for part in arrangement[0])
        if filling not in self.whole:
            own = tuple((place[1][0], 0) for place in self.plan.places)
            self.whole[filling] = True
            for first, second in naive.pair_table(self.plan, filling):
                for inputs in naive.all_inputs(self.plan):
                    wanted, _ = naive.step(self.plan, own, first, inputs, (0,) * len(own))
                    for coming in naive.all_comings(self.plan, filling):
                        shown, _ = naive.step(self.plan, filling, second, inputs, coming)
                        if (naive.at_lines(self.plan, shown, self.plan.exits)
                                != naive.at_lines(self.plan, wanted, self.plan.exits)):
                            self.whole[filling] = False
        return self.whole[filling]

    def cleared(self, name, arrangement, left):
        part = self.part_in(name, arrangement)
        whole = all(self.case.worlds[world][part] == 0 for world in left)
        return whole and self.case.kinds[part] == self.place(name)[1][0]

    def beginning(self):
        return (0, self.case.arrangement, -1, tuple(range(len(self.case.worlds))))

    def followers(self, standing):
        step, arrangement, sign, left = standing
        due = self.flow[step]
        if due[0] == "look":
            signs = sorted({told for world in left for told in self.readable(step, arrangement, world)})
            return tuple((due[3], arrangement, told, tuple(world for world in left
                                                           if told in self.readable(step, arrangement, world)))
                         for told in signs)
        if due[0] == "if":
            return ((due[2] if sign in due[1] else due[3], arrangement, sign, left),)
        if due[0] in ("done", "quit"):
            return ()
        if due[0] == "swap":
            arrangement = self.swapped(due[1], arrangement)
        if due[0] == "back":
            arrangement = self.put_back(due[1], arrangement) or arrangement
        return () if arrangement is None else ((due[2], arrangement, sign, left),)

    def takes(self, standing):
        step, arrangement, _, _ = standing
        due = self.flow[step]
        if due[0] == "look":
            return len(self.rows[due[1]]) + 1
        if due[0] == "swap" and self.swapped(due[1], arrangement) is not None:
            return self.place(due[1])[3]
        if due[0] == "back" and self.put_back(due[1], arrangement) is not None:
            return self.place(due[1])[3]
        return 0

    def price_of(self, standing):
        step, arrangement, _, _ = standing
        due = self.flow[step]
        if due[0] == "swap" and self.swapped(due[1], arrangement) is not None:
            return self.price(self.part_in(due[1], self.swapped(due[1], arrangement)))
        if due[0] == "back" and self.put_back(due[1], arrangement) is not None:
            return -self.price(self.part_in(due[1], arrangement))
        return 0

    def event(self, standing):
        """The event of the step but of a look, or None."""
        step, arrangement, _, _ = standing
        due = self.flow[step]
        if due[0] in ("done", "quit"):
            return due
        if due[0] == "say":
            return (due[0], due[1], self.part_in(due[1], arrangement))
        if due[0] == "swap":
            behind = self.swapped(due[1], arrangement)
            return ("lack", due[1]) if behind is None else ("swap", due[1], self.part_in(due[1], behind))
        if due[0] == "back" and self.put_back(due[1], arrangement) is not None:
            return ("back", due[1], self.part_in(due[1], self.put_back(due[1], arrangement)))
        return None

    def standings(self):
        listed = [self.beginning()]
        for standing in listed:
            for follower in self.followers(standing):
                if follower not in listed:
                    listed.append(follower)
        return tuple(listed)

    def due(self, standing, world, strict):
        """The first word that is due in a world, but for `late`."""
        step, arrangement, _, left = standing
        due = self.flow[step]
        if due[0] == "swap":
            if self.swapped(due[1], arrangement) is None:
                return "lack"
            return "cleared" if self.cleared(due[1], arrangement, left) else None
        if due[0] == "say" and self.case.worlds[world][self.part_in(due[1], arrangement)] == 0:
            return "untrue"
        if due[0] == "done" and not self.acts(arrangement, world):
            return "bad"
        return "quit" if due[0] == "quit" and strict else None

    def runs(self, world):
        """All ended runs in a world, each as its standings in order."""
        waiting = [(self.beginning(),)]
        while waiting:
            run = waiting.pop()
            behind = [told for told in self.followers(run[-1]) if world in told[3]]
            if not behind:
                yield run
            waiting += [(*run, told) for told in behind]

    def signs_of(self, run, many):
        """The signs read at the first so many steps of a run."""
        return tuple(run[at + 1][2] for at in range(many) if self.flow[run[at][0]][0] == "look")

    def breach(self, limit, strict):
        for world in range(len(self.case.worlds)):
            found = []
            for run in self.runs(world):
                minutes = 0
                for at, standing in enumerate(run):
                    minutes += self.takes(standing)
                    word = self.due(standing, world, strict) or ("late" if minutes > limit else None)
                    if word is not None:
                        look = self.flow[standing[0]][0] == "look"
                        signs = self.signs_of(run, at + (1 if look else 0))
                        found.append((len(signs), signs, word))
                        break
            if found:
                return (min(found)[2], world, min(found)[1])
        return None

    def bill(self, run):
        return sum(self.takes(told) for told in run), sum(self.price_of(told) for told in run)

    def bills(self):
        told = []
        for world in range(len(self.case.worlds)):
            minutes, prices = zip(*[self.bill(run) for run in self.runs(world)])
            told.append((min(minutes), max(minutes), min(prices), max(prices)))
        return tuple(told)

    def more(self, standing):
        """The most minutes that a run takes from this standing on."""
        return self.takes(standing) + max([self.more(told) for told in self.followers(standing)], default=0)

    def outcome(self, run):
        return tuple(event for event in map(self.event, run) if event is not None)

    def outcomes(self, world):
        return tuple(sorted({self.outcome(run) for run in self.runs(world)}))

    def least_signs(self, world, outcome):
        found = [self.signs_of(run, len(run)) for run in self.runs(world) if self.outcome(run) == outcome]
        return min(found, key=lambda signs: (len(signs), signs))

    def lean_body(self, standing):
        """The leaned manual from this standing on."""
        due = self.flow[standing[0]]
        behind = self.followers(standing)
        if due[0] == "look" and len(behind) > 1:
            body = self.lean_body(behind[-1])
            for told in behind[-2::-1]:
                body = (("if", (told[2],), self.lean_body(told), body),)
            return (due[:3], *body)
        event = self.event(standing)
        own = () if event is None else (due[:2] if due[0] in ("swap", "back", "say") else due,)
        return own + (self.lean_body(behind[0]) if behind else ())


def plain_alike(case, first, second):
    """None, or the first difference of two manuals, as the document tells it."""
    judges = Judge(case, first), Judge(case, second)
    for world in range(len(case.worlds)):
        one, two = [set(judge.outcomes(world)) for judge in judges]
        if one != two:
            outcome = min(one ^ two)
            which = 0 if outcome in one else 1
            return world, which, outcome, judges[which].least_signs(world, outcome)
    return None


def plain_is_right(judge, limit, table, strict):
    """What judge_table must tell of a table of tuples that have their forms."""
    first = {}
    for row in table:
        first.setdefault(row[:4], row[4])
    if not any(row[:4] == judge.beginning() and row[4] <= limit for row in table):
        return -1
    for at, row in enumerate(table):
        behind = judge.followers(row[:4])
        wrong = not row[3] or any(judge.due(row[:4], world, strict) for world in row[3])
        if wrong or not all(told in first for told in behind):
            return at
        if row[4] != judge.takes(row[:4]) + max([first[told] for told in behind], default=0):
            return at
    return None
