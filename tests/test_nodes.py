import unittest

from tests.played import MENU, TESTS, Player, large_play, many_plays, many_rich_plays
from tests.raising import error_of
from tests.repairs import DROP, ONE, STUCK, TURN, WIRE, WIRED, ZERO, as_lists, lamp_case, wire_case
from tests.samples import EMPTY
from tinkerhall.best import Best
from tinkerhall.cases import Case
from tinkerhall.menus import Menu
from tinkerhall.nodes import deeds_at, followers_of, is_met, nodes
from tinkerhall.values import judge_values, value_table

START = ((0, 1), (2, 3, 4), ())
LOOK_ONE, LOOK_TWO = ("look", "one", "g"), ("look", "two", "c")
BARE = Case(EMPTY, (), (), (), ((),))
NO_LOOKS = Menu(WIRE, (), ())


class IsMetTest(unittest.TestCase):
    def test_without_a_goal(self):
        case = wire_case((), ZERO, ((2, 1),))
        self.assertEqual(case.worlds, ((0,) * 5, (0, 0, 1, 0, 0), (1, 0, 0, 0, 0)))
        for left, met in (((0,), True), ((1,), True), ((0, 1), True), ((2,), False), ((0, 2), False),
                          ((0, 1, 2), False), ((), True)):
            self.assertIs(is_met(case, (START, left)), met)
            self.assertIs(is_met(case, [as_lists(START), list(left)], goal=None), met)
        swapped = case.swapped("g")
        self.assertEqual([is_met(case, (swapped, (world,))) for world in range(3)], [True, False, True])
        # A stand-in that does not act as whole, in whatever world.
        turned = ((4, 1), (0, 2, 3), ())
        self.assertIs(is_met(case, (turned, (0,))), False)

    def test_with_a_goal(self):
        case = wire_case((), ZERO, ((2, 1),))
        for goal, left, met in (((5, 5, -7), (0, 1), True), ((5, 5, -7), (1, 2), False), ([5, 5, -7], (2,), True),
                                ((0, 10 ** 39, 0), (0, 2), True), ((0, 1, 0), (0, 1), False), ((1, 1, 1), (0, 1, 2), True)):
            self.assertIs(is_met(case, (START, left), goal), met)
            self.assertIs(is_met(case, as_lists((START, left)), list(goal)), met)

    def test_bad_goals(self):
        case = wire_case((), ZERO)
        node = (START, (0, 1))
        goals = (7, True, "ab", {}, (), (1,), (1, 2, 3), (1, True), (False, 1), (1, None), (1, "1"), ((1,), 2), [0, 1.0])
        for goal in goals:
            for call, things in ((is_met, (node,)), (deeds_at, (MENU, node)), (nodes, (MENU,)), (value_table, (MENU,)),
                                 (judge_values, (MENU, None))):
                self.assertEqual(error_of(call, case, *things, goal), ("BadGoal", goal), call)
            self.assertEqual(error_of(Best, case, MENU, goal=goal), ("BadGoal", goal))
        error = error_of(is_met, case, node, [1, [2]])
        self.assertEqual(error, ("BadGoal", [1, [2]]))


class DeedsAtTest(unittest.TestCase):
    def test_deeds(self):
        case = wire_case((), ZERO, STUCK)
        self.assertEqual(case.worlds, ((0,) * 5, (0, 1, 0, 0, 0), (1, 0, 0, 0, 0)))
        every = (LOOK_ONE, LOOK_TWO, ("swap", "g"), ("swap", "c"))
        self.assertEqual(deeds_at(case, MENU, (START, (0, 1, 2))), every)
        # What is cleared is not swapped out, and what is met needs nothing.
        self.assertEqual(deeds_at(case, MENU, (START, (0, 1))), (*every[:2], every[3]))
        self.assertEqual(deeds_at(case, MENU, (START, (2,))), every[:3])
        self.assertEqual(deeds_at(case, MENU, (START, (0,))), ())
        self.assertEqual(deeds_at(case, MENU, as_lists((START, (0, 2)))), every[:3])
        # With a goal, the machine can be left as it is, or swapped for nothing.
        self.assertEqual(deeds_at(case, MENU, (START, (0, 2)), (0, 0, 0)), ())
        self.assertEqual(deeds_at(case, MENU, (START, (0, 2)), [0, 0, 1]), every[:3])
        self.assertEqual(deeds_at(case, MENU, (((0, 1), (4, 2), (("c", 3),)), (0, 1, 2)), goal=(0, 1, 2)), every[:3])
        self.assertEqual(deeds_at(case, NO_LOOKS, (START, (1, 2))), every[2:])

    def test_stand_ins_are_never_cleared(self):
        case = wire_case((), placed=(4, 1), shelf=(0, 2, 3))
        self.assertEqual(deeds_at(case, NO_LOOKS, (case.arrangement, (0,))), (("swap", "g"),))
        self.assertEqual(deeds_at(case, NO_LOOKS, (((0, 1), (2, 3), (("g", 4),)), (0,))), ())

    def test_no_place(self):
        menu = Menu(EMPTY, (("one", ((1,),)),), (("one", "in"),))
        node = (BARE.arrangement, (0,))
        self.assertIs(is_met(BARE, node), True)
        self.assertEqual((deeds_at(BARE, menu, node), nodes(BARE, menu), value_table(BARE, menu)),
                         ((), (node,), ((*node, 0),)))
        self.assertEqual(followers_of(BARE, menu, node, ("look", "one", "in")), ((1, node),))


class FollowersOfTest(unittest.TestCase):
    def test_followers(self):
        case = wire_case((), ZERO, TURN)
        node = (START, (0, 1, 2))
        self.assertEqual(followers_of(case, MENU, node, LOOK_ONE), ((0, (START, (1, 2))), (1, (START, (0, 2)))))
        self.assertEqual(followers_of(case, MENU, as_lists(node), list(LOOK_TWO)),
                         ((0, (START, (0, 1, 2))), (1, (START, (2,)))))
        self.assertEqual(followers_of(case, MENU, (START, (1,)), LOOK_ONE), ((0, (START, (1,))),))
        swapped = ((2, 1), (3, 4), (("g", 0),))
        self.assertEqual(followers_of(case, MENU, node, ("swap", "g")), ((-1, (swapped, (0, 1, 2))),))
        self.assertEqual(followers_of(case, MENU, (swapped, (0, 2)), LOOK_ONE), ((1, (swapped, (0, 2))),))


class NodesTest(unittest.TestCase):
    def test_in_order(self):
        case = wire_case((), ZERO, shelf=(2,))
        menu = Menu(WIRE, TESTS, (("one", "g"),))
        swapped = ((2, 1), (), (("g", 0),))
        self.assertEqual(nodes(case, menu), ((START[0:1] + ((2,), ()), (0, 1)), (((0, 1), (2,), ()), (1,)),
                                             (((0, 1), (2,), ()), (0,)), (swapped, (0, 1)), (swapped, (1,))))
        self.assertEqual(nodes(case, menu, (4, 4)), ((((0, 1), (2,), ()), (0, 1)),))
        # With different answers the looks at the swapped part tell nothing.
        self.assertEqual(nodes(case, menu, (4, 5)), ((((0, 1), (2,), ()), (0, 1)), (((0, 1), (2,), ()), (1,)),
                                                     (((0, 1), (2,), ()), (0,)), (swapped, (0, 1))))

    def test_without_looks(self):
        case = wire_case(ZERO, ONE, shelf=(4, 2))
        self.assertEqual(nodes(case, NO_LOOKS), (
            (((0, 1), (4, 2), ()), (0, 1)), (((4, 1), (2,), (("g", 0),)), (0, 1)),
            (((2, 1), (), (("g", 0), ("g", 4))), (0, 1))))

    def test_2000_nodes_and_2001(self):
        case, menu = large_play(2000)
        found = nodes(case, menu)
        self.assertEqual((len(found), found), (2000, Player(case, menu).nodes()))
        self.assertEqual((len(value_table(case, menu)), len(Best(case, menu))), (2000, 2000))
        case, menu = large_play(2001)
        self.assertEqual(len(Player(case, menu).nodes()), 2001)
        for call in (nodes, value_table, Best):
            self.assertEqual(error_of(call, case, menu), ("TooMany", "node"))
        self.assertEqual(error_of(nodes, case, menu, (True,) * 7), ("BadGoal", (True,) * 7))
        # With a goal that is met soon there are fewer; and these do not go through all nodes.
        self.assertEqual(len(nodes(case, menu, (1,) * 7)), 1)
        beginning = (case.arrangement, tuple(range(7)))
        self.assertEqual(len(deeds_at(case, menu, beginning)), 3 + 5)
        self.assertEqual(judge_values(case, menu, ((*beginning, -1),)), 0)

    def test_as_told_for_many(self):
        chance_nodes = 0
        for case, menu, goal in (*many_plays(401, 400), *many_rich_plays(402, 200)):
            player = Player(case, menu, goal)
            found = nodes(case, menu, goal)
            self.assertEqual(found, player.nodes())
            for node in found:
                self.assertEqual(is_met(case, node, goal), player.is_met(node))
                self.assertEqual(deeds_at(case, menu, node, goal), player.deeds(node))
                for deed in player.deeds(node):
                    self.assertEqual(followers_of(case, menu, node, deed), player.followers(node, deed))
            chance_nodes += len(found)
        self.assertGreater(chance_nodes, 3000)

    def test_parts_that_fit_nowhere(self):
        self.assertEqual(WIRED[4], "turner")
        case = Case(WIRE.changed(places=(("g", ("pass",), ("in",), 3), WIRE.places[1])), WIRED, (0, 1), (4,),
                    ((1, 0, 0, 0, 0),))
        self.assertEqual(nodes(case, NO_LOOKS), ((((0, 1), (4,), ()), (0,)),))
        self.assertEqual(len(nodes(lamp_case(3), Menu(lamp_case(3).plan, (), ()))), 1)
        self.assertEqual(len(nodes(wire_case(DROP), NO_LOOKS)), 2)
