import unittest

from tests import naive
from tests.raising import error_of
from tests.samples import CATALOGUE, EMPTY, EXAMPLE, STILL, TURNED, any_row, many_fillings, ring_of
from tinkerhall.machines import Machine, beginning, run, step

import random

OWN = EXAMPLE.own


class StepTest(unittest.TestCase):
    def test_the_example(self):
        self.assertEqual(beginning(EXAMPLE, OWN), (0,))
        self.assertEqual(step(EXAMPLE, OWN, (1,), (1,)), ((1, 1, 1), (1,)))
        self.assertEqual(step(EXAMPLE, OWN, (1,), (0,)), ((0, 0, 1), (0,)))
        self.assertEqual(step(EXAMPLE, [["join", 0], ["cold", 0]], [0], [1]), ((1, 1, 0), (1,)))
        self.assertEqual(beginning(EXAMPLE, (("gate", 0), ("cold", 0))), (1,))

    def test_conditions(self):
        self.assertEqual(step(EXAMPLE, (("gate", 1), ("cell", 0)), (1,), (1,)), ((1, 0, 1), (0,)))
        flees = (("gate", 2), ("cell", 2))
        self.assertEqual(step(EXAMPLE, flees, (1,), (0,)), ((0, 0, 1), (0,)))
        self.assertEqual(step(EXAMPLE, flees, (1,), (0,), (1, 0)), ((0, 1, 1), (1,)))
        self.assertEqual(step(EXAMPLE, flees, (1,), (0,), coming=[1, 1]), ((0, 1, 1), (0,)))
        # A coming counts only where the part is broken in a fleeing way.
        self.assertEqual(step(EXAMPLE, (("gate", 1), ("cell", 0)), (1,), (1,), (1, 1)), ((1, 0, 1), (0,)))

    def test_what_keeps_shows_before_it_keeps(self):
        self.assertEqual(run(TURNED, TURNED.own, ((0, 0), (1, 0), (1, 1))),
                         ((0, 0, 1, 0, 0), (1, 0, 0, 1, 1), (1, 1, 0, 0, 1)))

    def test_no_entry_and_no_place(self):
        self.assertEqual(run(STILL, STILL.own, ((),)), ((2,),))
        self.assertEqual(run(STILL, (("fixed", 1),), ((), ()), ((1,),)), ((0,), (2,)))
        self.assertEqual(run(EMPTY, (), [[1], [0]]), ((1,), (0,)))
        self.assertEqual(step(EMPTY, (), (), (1,)), ((1,), ()))

    def test_rings_through_three_places_that_keep(self):
        plan = ring_of(3)
        filling = (("cell", 0), ("cold", 0), ("cell", 0))
        self.assertEqual(run(plan, filling, ((),) * 4), ((0, 1, 0), (0, 0, 1), (1, 0, 0), (0, 1, 0)))
        self.assertEqual(len(run(plan, filling, ((),) * 60)), 60)

    def test_comings_that_lack_are_none(self):
        filling = (("gate", 2), ("cell", 0))
        row = ((0,), (0,), (0,))
        self.assertEqual(run(EXAMPLE, filling, row), ((0, 0, 0), (0, 0, 0), (0, 0, 0)))
        self.assertEqual(run(EXAMPLE, filling, row, comings=[(1, 0)]), ((0, 1, 0), (0, 0, 1), (0, 0, 0)))
        self.assertEqual(run(EXAMPLE, filling, row, ((0, 1), [1, 1])), ((0, 0, 0), (0, 1, 0), (0, 0, 1)))

    def test_as_told_for_many_plans(self):
        chance = random.Random(3)
        for plan, filling in many_fillings(11, 150, places=(0, 1, 2, 3, 4, 5, 6), broken=4):
            row = any_row(chance, plan, 8)
            comings = tuple(chance.choice(naive.all_tuples([(0, 1)] * len(plan))) for _ in row)
            self.assertEqual(run(plan, filling, row, comings), naive.run(plan, filling, row, comings))
            self.assertEqual(beginning(plan, filling), naive.beginning(plan, filling))

    def test_bad_filling_then_bad_row(self):
        for filling in (None, (), OWN[:1], (*OWN, OWN[0]), "ab", {}):
            self.assertEqual(error_of(run, EXAMPLE, filling, None), ("BadFilling", -1), filling)
        for pair in (None, "ab", ("cell",), ("cell", 0, 0), ("gate", 0), ("turn", 0), ("cell", 3), ("cell", -1),
                     ("cell", True), ("cell", "0"), ("cell", None), (["cell"], 0), ("cold", 1)):
            self.assertEqual(error_of(run, EXAMPLE, (OWN[0], pair), None), ("BadFilling", 1), pair)
            for call in (beginning, Machine):
                self.assertEqual(error_of(call, EXAMPLE, (OWN[0], pair)), ("BadFilling", 1), pair)
            self.assertEqual(error_of(step, EXAMPLE, (OWN[0], pair), (0,), (0,)), ("BadFilling", 1), pair)
        self.assertEqual(error_of(run, EXAMPLE, (None, None), ()), ("BadFilling", 0))
        self.assertEqual(error_of(beginning, EXAMPLE, OWN[:1]), ("BadFilling", -1))
        for row in (None, (), [], "0", ((0,),) * 61, 7):
            self.assertEqual(error_of(run, EXAMPLE, OWN, row), ("BadRow", -1), row)
        for bad in (None, (), (0, 0), (2,), (True,), ("0",), "0", 0):
            self.assertEqual(error_of(run, EXAMPLE, OWN, ((0,), (1,), bad, None)), ("BadRow", 2), bad)
        self.assertIsNone(error_of(run, EXAMPLE, OWN, ((0,),) * 60))
        self.assertEqual(error_of(run, STILL, STILL.own, ((0,),)), ("BadRow", 0))


class MachineTest(unittest.TestCase):
    def test_go_and_standing(self):
        machine = Machine(EXAMPLE, [["join", 0], ["cell", 0]])
        self.assertIs(machine.plan, EXAMPLE)
        self.assertEqual(machine.filling, (("join", 0), ("cell", 0)))
        self.assertEqual(machine.standing, (0,))
        self.assertEqual(machine.go((1,), [0]), ((0,), (1,)))
        self.assertEqual(machine.standing, (1,))
        self.assertEqual(machine.go(), ())
        machine.standing = [0]
        self.assertEqual(machine.standing, (0,))
        self.assertEqual(machine.go((0,)), ((0,),))
        self.assertEqual(len(machine.go(*[(1,)] * 200)), 200)

    def test_comings_are_those_of_these_steps(self):
        machine = Machine(EXAMPLE, (("gate", 2), ("cell", 0)))
        self.assertEqual(machine.go((0,), (0,), comings=((1, 0),)), ((0,), (1,)))
        self.assertEqual(machine.standing, (0,))
        self.assertEqual(machine.go((0,), (0,), comings=[[0, 0], [1, 0]]), ((0,), (0,)))
        self.assertEqual(machine.standing, (1,))

    def test_two_exits_in_their_order(self):
        machine = Machine(TURNED.changed(exits=("b", "j")), TURNED.own)
        self.assertEqual(machine.go((0, 0), (0, 0), (0, 1)), ((0, 0), (0, 1), (1, 1)))

    def test_goes_as_a_run(self):
        chance = random.Random(4)
        for plan, filling in many_fillings(12, 40, broken=4):
            row = any_row(chance, plan, 9)
            machine = Machine(plan, filling)
            shown = machine.go(*row[:4]) + machine.go(*row[4:])
            self.assertEqual(shown, tuple(naive.at_lines(plan, signs, plan.exits) for signs in run(plan, filling, row)))

    def test_fresh_copy_and_equal(self):
        machine = Machine(EXAMPLE, (("join", 0), ("cell", 0)))
        machine.go((1,))
        copied, fresh = machine.copy(), machine.fresh()
        self.assertEqual((copied.standing, fresh.standing), ((1,), (0,)))
        self.assertEqual(machine, copied)
        self.assertNotEqual(machine, fresh)
        copied.go((0,), (0,))
        copied.standing = (0,)
        self.assertEqual(machine.standing, (1,))
        self.assertEqual(copied, fresh)
        self.assertNotEqual(fresh, Machine(EXAMPLE, (("gate", 0), ("cell", 0))))
        self.assertNotEqual(fresh, Machine(EXAMPLE.changed(exits=("g",)), fresh.filling))
        self.assertEqual(fresh, Machine(EXAMPLE.changed(), fresh.filling))
        self.assertFalse(machine == CATALOGUE)
