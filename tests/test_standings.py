import unittest

from tests import naive
from tests.raising import error_of
from tests.samples import CATALOGUE, EMPTY, EXAMPLE, STILL, TURNED, many_fillings, ring_of
from tinkerhall.plans import Plan
from tinkerhall.standings import least_table, standings


class StandingsTest(unittest.TestCase):
    def test_plain_ones(self):
        self.assertEqual(standings(EXAMPLE, EXAMPLE.own), ((0,),))
        self.assertEqual(standings(EXAMPLE, (("join", 0), ("cell", 0))), ((0,), (1,)))
        self.assertEqual(standings(EXAMPLE, [["gate", 2], ["cold", 0]]), ((1,), (0,)))
        self.assertEqual(standings(EMPTY, ()), ((),))
        self.assertEqual(standings(STILL, (("fixed", 1),)), ((),))
        self.assertEqual(standings(ring_of(2), (("cell", 0), ("cold", 0))), ((0, 1), (1, 0)))

    def test_order_is_by_inputs_then_comings(self):
        plan = Plan(CATALOGUE, ("a",), (("k", ("cell",), ("a",), 1), ("l", ("cell",), ("a",), 1)), ("k",))
        # From (0, 0) with the input 1: first nothing comes, then l, then k, then both.
        self.assertEqual(standings(plan, (("cell", 2), ("cell", 2))), ((0, 0), (1, 1), (1, 0), (0, 1)))

    def test_as_told_for_many_plans(self):
        for plan, filling in many_fillings(21, 200, places=(1, 2, 3, 4), broken=4):
            self.assertEqual(standings(plan, filling), naive.standings(plan, filling))

    def test_bad_filling(self):
        self.assertEqual(error_of(standings, EXAMPLE, ()), ("BadFilling", -1))
        self.assertEqual(error_of(standings, EXAMPLE, (("gate", 0), ("cell", 3))), ("BadFilling", 1))


class LeastTableTest(unittest.TestCase):
    def test_plain_ones(self):
        # The gate never gives 1 here, as the cell begins with 0.
        self.assertEqual(least_table(EXAMPLE, EXAMPLE.own), ((((0,), 0), ((0,), 0)),))
        self.assertEqual(least_table(EXAMPLE, (("join", 0), ("cell", 0))),
                         ((((0,), 0), ((0,), 1)), (((1,), 1), ((1,), 1))))
        self.assertEqual(least_table(EMPTY, ()), ((((0,), 0), ((1,), 0)),))
        self.assertEqual(least_table(STILL, STILL.own), ((((2,), 0),),))

    def test_other_watched_lines(self):
        self.assertEqual(least_table(EXAMPLE, EXAMPLE.own, ("in", "c", "in")), ((((0, 0, 0), 0), ((1, 0, 1), 0)),))
        filling = (("join", 0), ("cell", 0))
        # What the gate shows behind a 1 does not hang on the input any more.
        self.assertEqual(least_table(EXAMPLE, filling, lines=["g"]), ((((0,), 0), ((1,), 1)), (((1,), 1), ((1,), 1))))
        self.assertEqual(least_table(EXAMPLE, filling, ["in"]), ((((0,), 0), ((1,), 0)),))

    def test_standings_that_show_the_same_are_one_lot(self):
        plan = Plan(CATALOGUE, ("a",), (("k", ("cell",), ("a",), 1), ("l", ("cell",), ("a",), 1)), ("k",))
        self.assertEqual(len(standings(plan, plan.own)), 2)
        apart = plan.changed(places=(("k", ("cell",), ("a",), 1), ("l", ("cell",), ("k",), 1)))
        self.assertEqual(len(standings(apart, apart.own)), 4)
        self.assertEqual(least_table(apart, apart.own), ((((0,), 0), ((0,), 1)), (((1,), 0), ((1,), 1))))
        self.assertEqual(len(least_table(apart, apart.own, ("l",))), 4)

    def test_tells_what_the_machine_shows(self):
        many = 0
        for plan, filling in many_fillings(22, 300, places=(1, 2, 3, 4), broken=1):
            if len(naive.all_comings(plan, filling)) > 1:
                continue
            table = least_table(plan, filling)
            many += len(table)
            found, listed = {0: naive.beginning(plan, filling)}, [(0, naive.beginning(plan, filling))]
            for lot, standing in listed:
                for at, inputs in enumerate(naive.all_inputs(plan)):
                    shown, behind = naive.step(plan, filling, standing, inputs, (0,) * len(plan))
                    self.assertEqual(table[lot][at][0], naive.at_lines(plan, shown, plan.exits))
                    if (table[lot][at][1], behind) not in listed:
                        listed.append((table[lot][at][1], behind))
                    # Lots are numbered as they are found.
                    self.assertTrue(table[lot][at][1] in found or table[lot][at][1] == len(found))
                    found.setdefault(table[lot][at][1], behind)
            self.assertEqual(len(found), len(table))
            self.assert_no_two_lots_show_the_same(table)
        self.assertGreater(many, 250)

    def assert_no_two_lots_show_the_same(self, table):
        apart = {(first, second) for first in range(len(table)) for second in range(len(table))
                 if any(table[first][at][0] != table[second][at][0] for at in range(len(table[0])))}
        for _ in range(len(table)):
            apart |= {(first, second) for first in range(len(table)) for second in range(len(table))
                      if any((table[first][at][1], table[second][at][1]) in apart for at in range(len(table[0])))}
        self.assertEqual(len(apart), len(table) * (len(table) - 1))

    def test_errors_in_order(self):
        flees = (("gate", 2), ("cell", 2))
        self.assertEqual(error_of(least_table, EXAMPLE, (("gate", 2), ("cell", 3)), ("no",)), ("BadFilling", 1))
        self.assertEqual(error_of(least_table, EXAMPLE, flees[:1], ("no",)), ("BadFilling", -1))
        self.assertEqual(error_of(least_table, EXAMPLE, flees, ("no",)), ("Flees", 0))
        self.assertEqual(error_of(least_table, EXAMPLE, (("gate", 1), ("cell", 2))), ("Flees", 1))
        self.assertEqual(error_of(least_table, EXAMPLE, EXAMPLE.own, ("c", "no", "nor")), ("Unknown", "no"))
        self.assertEqual(error_of(least_table, TURNED, TURNED.own, ("a", "in")), ("Unknown", "in"))
