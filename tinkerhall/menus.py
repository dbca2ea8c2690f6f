"""Menus: the tests and looks from which the best manual is made."""

from tinkerhall.checks import judge_tests
from tinkerhall.errors import BadMenu, Unknown
from tinkerhall.forms import are_different, as_tuples, is_list
from tinkerhall.statements import are_tests

MOST_LOOKS = 6


class Menu:
    """Tests, and looks that can be made with them at lines of a plan."""

    def __init__(self, plan, tests, looks):
        if not are_tests(tests) or not are_different([name for name, _ in tests]):
            raise BadMenu("tests")
        if not _are_looks(plan, [name for name, _ in tests], looks):
            raise BadMenu("looks")
        judge_tests(plan, tests)
        self.plan = plan
        self.tests = as_tuples(tests)
        self.looks = as_tuples(looks)

    def __len__(self):
        return len(self.looks)

    def __iter__(self):
        return iter(self.looks)

    def __eq__(self, other):
        return (isinstance(other, Menu) and self.plan == other.plan and self.tests == other.tests
                and self.looks == other.looks)

    def test_row(self, name):
        """The row of the test of this name."""
        for told, row in self.tests:
            if told == name:
                return row
        raise Unknown(name)


def _are_looks(plan, names, thing):
    if not is_list(thing) or len(thing) > MOST_LOOKS:
        return False
    if not all([is_list(pair) and len(pair) == 2 and pair[0] in names and pair[1] in plan.lines for pair in thing]):
        return False
    return are_different([tuple(pair) for pair in thing])
