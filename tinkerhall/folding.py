"""Blocks of places, folded into one place of a new kind."""

from tinkerhall.checks import good_filling
from tinkerhall.errors import BadBlock, BadName, TooMany, Twice
from tinkerhall.forms import are_different, is_list
from tinkerhall.kinds import MOST_KINDS, MOST_PRICE, MOST_WAYS, Kind
from tinkerhall.plans import MOST_MINUTES, Plan, hung_loosely
from tinkerhall.signs import all_steps, is_name

MOST_OUTER = 2
WAY_NAMES = ("wa", "wb", "wc", "wd", "we", "wf")


class Folded:
    """A plan in which a block is folded into one place, beside the old plan."""

    def __init__(self, plan, names, kind):
        word = _fault(plan, names)
        if word is not None:
            raise BadBlock(word)
        _judge_new_name(plan.catalogue, kind)
        self.old = plan
        self.block = tuple([place[0] for place in plan.places if place[0] in names])
        self.outlet = _outlets(plan, self.block)[0]
        self.outer = _outer_lines(plan, self.block)
        ways, self.members, self.masked = _told_ways(plan, self.block, self.outer, self.outlet)
        self.kind = _folded_kind(plan, self.block, self.outer, self.outlet, kind, ways)
        self.plan = _folded_plan(plan, self.block, self.outer, self.outlet, self.kind)

    def unfold(self, filling):
        """The fillings of the old plan that show the same as this one of the folded plan."""
        filling = good_filling(self.plan, filling)
        pairs = {place[0]: pair for place, pair in zip(self.plan.places, filling)}
        condition = pairs[self.outlet][1]
        broken = self.members[condition - 1] if condition > 0 else (None, *self.masked)
        return tuple([self._unfolded(pairs, member) for member in broken])

    def fold(self, filling):
        """The filling of the folded plan, or None if several places of the block are broken."""
        filling = good_filling(self.old, filling)
        pairs = {place[0]: pair for place, pair in zip(self.old.places, filling)}
        broken = [(name, pairs[name][1]) for name in self.block if pairs[name][1] != 0]
        if len(broken) > 1:
            return None
        pairs[self.outlet] = (self.kind.name, self._way_of(broken))
        return tuple([pairs[place[0]] for place in self.plan.places])

    def _unfolded(self, pairs, member):
        """The old filling whose block is broken just at this member, or nowhere."""
        filling = []
        for name, kinds, _, _ in self.old.places:
            if name not in self.block:
                filling.append(pairs[name])
            elif member is not None and member[0] == name:
                filling.append((kinds[0], member[1]))
            else:
                filling.append((kinds[0], 0))
        return tuple(filling)

    def _way_of(self, broken):
        """The condition of the folded place; what is masked has no way of its own."""
        for at, members in enumerate(self.members):
            if broken and broken[0] in members:
                return at + 1
        return 0


def blocks(plan):
    """All blocks of at least two places, ascending by the numbers of the places."""
    numbers = [()]
    for number in range(len(plan.places)):
        numbers = [*numbers, *[(*begun, number) for begun in numbers]]
    for block in sorted(numbers):
        names = tuple([plan.places[number][0] for number in block])
        if len(block) > 1 and _fault(plan, names) is None:
            yield names


def _fault(plan, names):
    """The word by which the places cannot be folded, or None."""
    if not is_list(names) or not names or not are_different(names):
        return "names"
    if not all([name in plan.lines and name not in plan.entries for name in names]):
        return "names"
    if any([len(plan[name][1]) > 1 for name in names]):
        return "kinds"
    if any([name in plan.keeping for name in names]):
        return "keeps"
    if len(_outer_lines(plan, names)) > MOST_OUTER:
        return "lines"
    if len(_outlets(plan, names)) != 1:
        return "outlet"
    return "ring" if any([_comes_back(plan, names, line) for line in _outer_lines(plan, names)]) else None


def _outer_lines(plan, names):
    """The sources of the block that are not in it, in the order in which they are met."""
    outer = []
    for name, _, sources, _ in plan.places:
        if name in names:
            for source in sources:
                if source not in names and source not in outer:
                    outer.append(source)
    return tuple(outer)


def _outlets(plan, names):
    """The places of the block that something outside hangs on, or that are exits."""
    wanted = list(plan.exits)
    for name, _, sources, _ in plan.places:
        if name not in names:
            wanted.extend(sources)
    return [place[0] for place in plan.places if place[0] in names and place[0] in wanted]


def _comes_back(plan, names, line):
    """Whether an outer line hangs on the block itself, with nothing between that keeps."""
    if line in plan.entries or line in plan.keeping:
        return False
    return any([place in names for place in hung_loosely(plan.places, plan.keeping, line)])


def _judge_new_name(catalogue, name):
    if not is_name(name):
        raise BadName(name)
    if name in catalogue:
        raise Twice(name)
    if len(catalogue) >= MOST_KINDS:
        raise TooMany("kind")


def _block_kinds(plan, block):
    return {name: plan.catalogue[plan[name][1][0]] for name in block}


def _block_table(plan, outer, outlet, tables):
    """What the outlet shows for all inputs of the block, when its places act by these tables."""
    signs = plan.catalogue.signs
    folded = []
    for inputs in all_steps(signs, len(outer)):
        shown = {line: sign for line, sign in zip(outer, inputs)}
        for number in plan.order:
            name, _, sources, _ = plan.places[number]
            if name in tables:
                at = 0
                for source in sources:
                    at = at * signs + shown[source]
                shown[name] = tables[name][at]
        folded.append(shown[outlet])
    return tuple(folded)


def _told_ways(plan, block, outer, outlet):
    """The ways of the new kind, the members of each, and the pairs that are masked."""
    kinds = _block_kinds(plan, block)
    whole = {name: kinds[name].table for name in block}
    whole_table = _block_table(plan, outer, outlet, whole)
    members = {}
    masked = []
    for name in block:
        for at, (word, _, broken) in enumerate(kinds[name].ways):
            table = _block_table(plan, outer, outlet, {**whole, name: broken})
            if table == whole_table:
                masked.append((name, at + 1))
            else:
                members.setdefault((word, table), []).append((name, at + 1))
    if len(members) > MOST_WAYS:
        raise TooMany("way")
    ways = [(word, label, table) for label, (word, table) in zip(WAY_NAMES, list(members))]
    return tuple(ways), tuple([tuple(members[told]) for told in members]), tuple(masked)


def _folded_kind(plan, block, outer, outlet, name, ways):
    kinds = _block_kinds(plan, block)
    table = _block_table(plan, outer, outlet, {place: kinds[place].table for place in block})
    price = min(MOST_PRICE, sum([kinds[place].price for place in block]))
    return Kind(plan.catalogue.signs, name, len(outer), table, ways=ways, price=price)


def _folded_plan(plan, block, outer, outlet, kind):
    minutes = min(MOST_MINUTES, sum([plan[name][3] for name in block]))
    places = []
    for place in plan.places:
        if place[0] == block[0]:
            places.append((outlet, (kind.name,), outer, minutes))
        elif place[0] not in block:
            places.append(place)
    return Plan(plan.catalogue + kind, plan.entries, places, plan.exits)
