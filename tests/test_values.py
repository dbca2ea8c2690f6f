import random
import unittest

from tests.played import MENU, TESTS, Player, large_play, many_plays, many_rich_plays, plain_fits
from tests.raising import error_of
from tests.repairs import STUCK, TURN, WIRE, ZERO, as_lists, wire_case
from tinkerhall.menus import Menu
from tinkerhall.nodes import nodes
from tinkerhall.values import judge_values, value_table

START = ((0, 1), (2,), ())
SWAPPED = ((2, 1), (), (("g", 0),))
LOOK = Menu(WIRE, TESTS, (("one", "g"),))


class ValueTableTest(unittest.TestCase):
    def test_values(self):
        case = wire_case((), ZERO, shelf=(2,))
        # A look takes 3 minutes, a swap as many; the swap alone does it, too.
        table = ((START, (0, 1), 3), (START, (1,), 3), (START, (0,), 0), (SWAPPED, (0, 1), 0), (SWAPPED, (1,), 0))
        self.assertEqual(value_table(case, LOOK), table)
        self.assertEqual(nodes(case, LOOK), tuple(row[:2] for row in table))

    def test_a_goal(self):
        case = wire_case((), ZERO, shelf=(2,))
        self.assertEqual(value_table(case, LOOK, [0, 1]), ((START, (0, 1), 3), (START, (1,), 0), (START, (0,), 0),
                                                           (SWAPPED, (0, 1), -1)))
        self.assertEqual(value_table(case, LOOK, (7, 7)), ((START, (0, 1), 0),))

    def test_the_trap(self):
        # Which of both is stuck cannot be seen, and the cell has no spare part.
        case = wire_case(STUCK, shelf=(2,))
        self.assertEqual(value_table(case, LOOK), ((START, (0,), -1),))
        # A look that can always tell the same sign is never sure.
        case = wire_case((), TURN, shelf=())
        self.assertEqual(value_table(case, LOOK), ((((0, 1), (), ()), (0, 1), -1), (((0, 1), (), ()), (1,), -1)))

    def test_as_told_for_many(self):
        told = {}
        for case, menu, goal in (*many_plays(401, 400), *many_rich_plays(402, 200)):
            player = Player(case, menu, goal)
            values = player.values()
            table = tuple((*node, values[node]) for node in player.nodes())
            self.assertEqual(value_table(case, menu, goal), table)
            self.assertIsNone(judge_values(case, menu, table, goal))
            for row in table:
                told[min(row[2], 3)] = told.get(min(row[2], 3), 0) + 1
        self.assertGreater(min(told.get(value, 0) for value in (-1, 0, 3)), 100)

    def test_many_nodes(self):
        case, menu = large_play(2000)
        self.assertEqual({row[2] for row in value_table(case, menu)}, {-1})


def changed(chance, table, nodes):
    """A table that is bent somewhere, or only told otherwise."""
    rows = list(table)
    at = chance.randrange(len(rows))
    arrangement, left, value = rows[at]
    word = chance.choice(("order", "doubled", "out", "value", "left", "other", "behind", "empty", "all"))
    if word == "order":
        chance.shuffle(rows)
    elif word == "doubled":
        rows.insert(chance.randrange(len(rows) + 1), (arrangement, left, chance.choice((value, value, value + 1, 0, -1))))
    elif word == "out":
        rows.pop(at)
    elif word == "value":
        rows[at] = (arrangement, left, max(-1, value + chance.choice((-1, 1, 3))))
    elif word == "left":
        rows[at] = (arrangement, left[1:], value)
    elif word == "other":
        node = chance.choice(nodes)
        rows.insert(at, (node[0], node[1][:1], chance.choice((-1, 0, 3))))
    elif word == "behind":
        rows.append((arrangement, left, value + 1))
    elif word == "empty":
        rows.insert(chance.randrange(len(rows) + 1), (arrangement, (), 0))
    else:
        # Greater by one throughout, but where it is met: then it never fits.
        rows = [(row[0], row[1], row[2] + 1 if row[2] > 0 else row[2]) for row in rows]
    return tuple(rows)


class JudgeValuesTest(unittest.TestCase):
    def setUp(self):
        self.case = wire_case((), ZERO, shelf=(2,))
        self.table = value_table(self.case, LOOK)

    def judged(self, *rows, goal=None):
        return judge_values(self.case, LOOK, rows, goal)

    def test_right_tables(self):
        self.assertIsNone(self.judged(*self.table))
        self.assertIsNone(judge_values(self.case, LOOK, as_lists(self.table)))
        self.assertIsNone(self.judged(*self.table[::-1], *self.table))
        table = value_table(self.case, LOOK, (0, 1))
        self.assertIsNone(judge_values(self.case, LOOK, table, [0, 1]))
        self.assertEqual(judge_values(self.case, LOOK, table), 1)
        self.assertEqual(judge_values(self.case, LOOK, self.table, goal=(0, 1)), 1)

    def test_the_beginning(self):
        for table in ((), [], None, "table", 7, {}, self.table[1:], (None,), ((START, (0, 1)), *self.table[1:]),
                      ((START, (0, 1), True), *self.table[1:]), ((START, (False, True), 3), *self.table[1:])):
            self.assertEqual(judge_values(self.case, LOOK, table), -1, table)

    def test_rows_that_do_not_fit(self):
        first, low, whole, swapped, alone = self.table
        self.assertEqual(self.judged(first, low, whole, alone), 0)
        self.assertEqual(self.judged(first, low, swapped, alone), 0)
        self.assertEqual(self.judged(first, whole, swapped, alone), 0)
        self.assertEqual(self.judged(first, low, whole, swapped), 1)
        self.assertEqual(self.judged((*first[:2], 4), low, whole, swapped, alone), 0)
        self.assertEqual(self.judged((*first[:2], 0), low, whole, swapped, alone), 0)
        self.assertEqual(self.judged((*first[:2], -1), low, whole, swapped, alone), 0)
        self.assertEqual(self.judged(first, low, (*whole[:2], 1), swapped, alone), 2)
        self.assertEqual(self.judged(first, low, whole, (*swapped[:2], -1), alone), 0)
        self.assertEqual(self.judged(low, whole, first, swapped, (*alone[:2], 3)), 0)

    def test_rows_that_have_not_their_form(self):
        bad = [None, 7, "row", (), (START, (0, 1)), (START, (0, 1), 3, 0), {}]
        bad += [(told, (0, 1), 3) for told in (
            None, (), (START[0], START[1]), (*START, ()), ((0,), (1, 2), ()), ((1, 0), (2,), ()), ((0, 0), (2,), ()),
            ((0, 1), (), ()),
            ((0, 1), (2, 2), ()), ((False, True), (2,), ()), ((0, 1), (), (("c", 2),)), ((0, 1), (), (("in", 2),)),
            ((0, 1), (3,), ()),
            ((0, 1), None, ()), "012", ((0, 1), (), (2,)), ((0, 1), (), (("g", 2, 0),)))]
        bad += [(START, left, 3) for left in (None, 0, (1, 0), (0, 0), (0, 2), (-1,), (0, True), ("0",), "01")]
        bad += [(START, (0, 1), value) for value in (-2, None, "3", True, False, (3,), 3.0)]
        for row in bad:
            self.assertEqual(self.judged(*self.table, row), 5, row)
            self.assertEqual(self.judged(row, *self.table), 0, row)
            self.assertEqual(self.judged(row, *self.table[1:]), -1, row)
        self.assertEqual(self.judged(*self.table, (START, (), 0)), 5)
        # With a goal that is met throughout, all other rows fit.
        met = (START, (0, 1), 0)
        self.assertIsNone(self.judged(met, (SWAPPED, (0,), 0), goal=(7, 7)))
        for row in bad:
            if isinstance(row, tuple) and len(row) == 3:
                other = tuple(told if repr(told) != repr(kept) else new for told, kept,
                              new in zip(row, (START, (0, 1), 3), met))
                self.assertEqual(self.judged(met, other, goal=(7, 7)), 1, other)

    def test_where_a_node_has_several_rows_the_first_one_tells(self):
        first, low, *rest = self.table
        self.assertEqual(self.judged(first, (*low[:2], 4), low, *rest), 1)
        self.assertEqual(self.judged(first, low, (*low[:2], 4), *rest), 2)
        self.assertEqual(self.judged(first, (SWAPPED, (0, 1), 1), low, *rest), 0)
        self.assertEqual(self.judged((*first[:2], 4), (SWAPPED, (0, 1), 1), low, *rest), 1)
        self.assertEqual(self.judged((*first[:2], 6), (SWAPPED, (0, 1), -1), low, *rest), 1)

    def test_rows_that_are_not_reached(self):
        alone = (SWAPPED, (0,), 0)
        self.assertIsNone(self.judged(*self.table, alone))
        self.assertEqual(self.judged(*self.table, (*alone[:2], -1)), 5)
        self.assertEqual(self.judged(*self.table, (*alone[:2], 3)), 5)

    def test_errors(self):
        self.assertEqual(error_of(judge_values, self.case, LOOK, None, (1,)), ("BadGoal", (1,)))
        self.assertEqual(error_of(judge_values, self.case, LOOK, None, (1, True)), ("BadGoal", (1, True)))

    def test_nothing_that_was_passed_is_changed(self):
        table = as_lists(self.table)
        judge_values(self.case, MENU, table)
        self.assertEqual(table, as_lists(self.table))

    def test_changed_tables(self):
        chance = random.Random(403)
        told = {}
        for case, menu, goal in (*many_plays(401, 400), *many_rich_plays(402, 200)):
            player = Player(case, menu, goal)
            table = value_table(case, menu, goal)
            for _ in range(4):
                other = changed(chance, table, player.nodes())
                wanted = plain_fits(player, other)
                self.assertEqual(judge_values(case, menu, other, goal), wanted)
                self.assertEqual(judge_values(case, menu, as_lists(other), goal), wanted)
                told[wanted] = told.get(wanted, 0) + 1
                if wanted is None:
                    # Values are the only numbers that fit.
                    known = {row[:2]: row[2] for row in table}
                    self.assertTrue(all(row[2] == known.get(row[:2], row[2]) for row in other))
        self.assertGreater(told[None], 100)
        self.assertGreater(told[-1], 50)
        self.assertGreater(sum(told[at] for at in told if at not in (None, -1)), 500)
