"""Manuals of repair."""

from tinkerhall.checks import judge_tests
from tinkerhall.errors import BadManual, BadStatement, Ring, Stray, TooHeavy, TooLong, Twice, Unknown
from tinkerhall.forms import as_tuples, is_list
from tinkerhall.runs import follow
from tinkerhall.signs import is_name
from tinkerhall.statements import all_statements, are_tests, bodies_in, is_body

MOST_CHAPTERS = 6
MOST_STATEMENTS = 200
MOST_WEIGHT = 299


class Manual:
    """Tests, and chapters of statements, of which the first one is begun with."""

    def __init__(self, tests, chapters):
        _judge_forms(tests, chapters)
        self.tests = as_tuples(tests)
        self.chapters = as_tuples(chapters)
        self._names = tuple([name for name, _ in self.chapters])
        self._written = [all_statements(body) for _, body in self.chapters]
        number = sum([len(written) for written in self._written])
        if number > MOST_STATEMENTS:
            raise TooLong(number)
        _judge_names(self.tests, self._names, self._written)
        for name, body in self.chapters:
            if _has_stray(body):
                raise Stray(name)
        _judge_rings(self._names, self._written)
        self._weight = _weights(self.chapters, self._written)[self._names[0]]
        if self._weight > MOST_WEIGHT:
            raise TooHeavy(self._weight)

    @property
    def weight(self):
        return self._weight

    def __getitem__(self, at):
        for name, body in self.chapters:
            if name == at:
                return body
        raise Unknown(at)

    def __contains__(self, x):
        return x in self._names

    def __len__(self):
        return len(self.chapters)

    def __iter__(self):
        return iter(self._names)

    def __eq__(self, other):
        return isinstance(other, Manual) and self.tests == other.tests and self.chapters == other.chapters

    def __add__(self, other):
        return Manual((*self.tests, *other.tests), (*self.chapters, *other.chapters))

    def __call__(self, case, signs):
        return follow(case, self, signs)

    def test_row(self, name):
        """The row of the test of this name."""
        for told, row in self.tests:
            if told == name:
                return row
        raise Unknown(name)

    def statements(self):
        """All statements as they are written, each ahead of those in it."""
        for written in self._written:
            yield from written

    def fits(self, plan):
        """Bars tests, lines and places that the plan does not have."""
        judge_tests(plan, self.tests)
        places = [place[0] for place in plan.places]
        for written in self._written:
            for statement in written:
                if statement[0] == "look" and statement[2] not in plan:
                    raise Unknown(statement[2])
                if statement[0] in ("swap", "back", "say") and statement[1] not in places:
                    raise Unknown(statement[1])


def _judge_forms(tests, chapters):
    if not are_tests(tests):
        raise BadManual("tests")
    if not is_list(chapters) or not 1 <= len(chapters) <= MOST_CHAPTERS:
        raise BadManual("chapters")
    if not all([is_list(pair) and len(pair) == 2 and is_name(pair[0]) and is_list(pair[1]) for pair in chapters]):
        raise BadManual("chapters")
    for pairs in (tests, chapters):
        names = [name for name, _ in pairs]
        for at, name in enumerate(names):
            if name in names[:at]:
                raise Twice(name)
    for name, body in chapters:
        if not is_body(body):
            raise BadStatement(name)


def _judge_names(tests, chapters, written):
    there = {"look": [name for name, _ in tests], "call": list(chapters)}
    for some in written:
        for statement in some:
            if statement[0] in there and statement[1] not in there[statement[0]]:
                raise Unknown(statement[1])


def _has_stray(body):
    """Whether a statement of the body, in no repeat, is a leave."""
    waiting = list(body)
    while waiting:
        statement = waiting.pop()
        if statement[0] == "leave":
            return True
        if statement[0] == "if":
            waiting.extend([*statement[2], *statement[3]])
    return False


def _called(written):
    return [statement[1] for statement in written if statement[0] == "call"]


def _judge_rings(names, written):
    calls = {name: _called(some) for name, some in zip(names, written)}
    for name in names:
        met = {}
        waiting = list(calls[name])
        while waiting:
            chapter = waiting.pop()
            if chapter == name:
                raise Ring(name)
            if chapter not in met:
                met[chapter] = True
                waiting.extend(calls[chapter])


def _weights(chapters, written):
    """The weights of the bodies of all chapters, none of which calls itself."""
    weights = {}
    while len(weights) < len(chapters):
        for (name, body), some in zip(chapters, written):
            if name not in weights and all([chapter in weights for chapter in _called(some)]):
                weights[name] = _weight_of(body, weights)
    return weights


def _weight_of(body, weights):
    total = 0
    # Each statement with how often it is written out by the repeats around it.
    waiting = [(statement, 1) for statement in body]
    while waiting:
        statement, times = waiting.pop()
        inner_times = times
        total = total + times
        if statement[0] == "call":
            total = total + times * weights[statement[1]]
        if statement[0] == "repeat":
            inner_times = times * statement[1]
            total = total + inner_times
        waiting.extend([(inner, inner_times) for part in bodies_in(statement) for inner in part])
    return total
