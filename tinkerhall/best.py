"""The best manual of a case with a menu."""

from tinkerhall.branches import branched
from tinkerhall.errors import NoManual, TooLong
from tinkerhall.forms import as_tuples
from tinkerhall.manuals import MOST_STATEMENTS, Manual
from tinkerhall.statements import all_statements
from tinkerhall.webs import NONE, Web

CHAPTER = "best"


class Best:
    """True if the beginning has a value; it knows the values of all nodes, and writes the best manual."""

    def __init__(self, case, menu, *, goal=None):
        self._menu = menu
        self._web = Web(case, menu, goal)
        self._values = self._web.worths()
        self.table = tuple([(*node, value) for node, value in zip(self._web.nodes, self._values)])
        self.value = None if self._values[0] == NONE else self._values[0]
        self._known = {(arrangement, left): value for arrangement, left, value in self.table}
        self._trap = tuple([(arrangement, left) for arrangement, left, value in self.table if value == NONE])

    def __bool__(self):
        return self.value is not None

    def __len__(self):
        return len(self.table)

    def __iter__(self):
        return iter(self.table)

    @property
    def trap(self):
        return self._trap

    def written(self):
        """The best manual."""
        if self.value is None:
            raise NoManual(len(self._trap))
        number = self._many_statements()
        if number > MOST_STATEMENTS:
            raise TooLong(number)
        body = self._body(0)
        used = [statement[1] for statement in all_statements(body) if statement[0] == "look"]
        tests = [test for test in self._menu.tests if test[0] in used]
        return Manual(tests, ((CHAPTER, body),))

    def answer(self, node, deed):
        """The least sign by which a look leads to a follower of the greatest value, or none; -1 for a swap."""
        led = self._web.work.led_to(self._menu, as_tuples(node), as_tuples(deed))
        # Where a node is met, so are its followers, whether or not the table has them.
        return _worst_sign([(sign, self._known.get(follower, 0)) for sign, follower in led])

    def worst(self):
        """The least row of signs of a run of the best manual that takes exactly the value."""
        self.written()
        signs = []
        number = 0
        while not self._web.met[number]:
            deed, led = self._chosen(number)
            sign = _worst_sign([(told, self._values[follower]) for told, follower in led])
            number = [follower for told, follower in led if told == sign][0]
            if deed[0] == "look":
                signs.append(sign)
        return tuple(signs)

    def _chosen(self, number):
        """The first deed for which the value of a node is reached, with its followers."""
        for deed, minutes, led in self._web.ways[number]:
            behind = [self._values[follower] for _, follower in led]
            if NONE not in behind and minutes + max(behind) == self._values[number]:
                return deed, led
        return None

    def _many_statements(self):
        """The number of statements that are written for the beginning."""
        many = {}
        for number in self._web.last_first:
            if self._web.met[number]:
                many[number] = 1
            elif self._values[number] != NONE:
                _, led = self._chosen(number)
                # A look brings an `if` for each follower but one.
                many[number] = len(led) + sum([many[follower] for _, follower in led])
        return many[0]

    def _body(self, number):
        """What is written for a node."""
        body = []
        while not self._web.met[number]:
            deed, led = self._chosen(number)
            body.append(deed)
            if len(led) > 1:
                return (*body, *branched([(sign, self._body(follower)) for sign, follower in led]))
            number = led[0][1]
        return (*body, ("done",))


def _worst_sign(rows):
    """The least sign with the greatest value, none counting as the greatest; `rows` has ascending signs with values."""
    ranks = [(value == NONE, value) for _, value in rows]
    return rows[ranks.index(max(ranks))][0]
