import itertools
import random
import unittest

from tests import naive
from tests.raising import error_of
from tests.samples import CATALOGUE, EMPTY, EXAMPLE, STILL, TURNED, any_row, many_fillings
from tinkerhall.kinds import Catalogue, Kind
from tinkerhall.plans import Plan
from tinkerhall.showings import comings_of, readable, showings, shows

FLEES = (("gate", 2), ("cell", 0))
BOTH = (("gate", 2), ("cell", 2))
# Each of six gates comes and goes by itself.
WIDE = Plan(CATALOGUE, ("a",), [(name, ("gate",), ("a", "a"), 1) for name in "pqrstu"], ("p",))


class ComingsTest(unittest.TestCase):
    def test_ascending(self):
        self.assertEqual(list(comings_of(EXAMPLE, BOTH, 1)), [((0, 0),), ((0, 1),), ((1, 0),), ((1, 1),)])
        self.assertEqual(list(comings_of(EXAMPLE, [["gate", 2], ["cell", 0]], 2)),
                         [((0, 0), (0, 0)), ((0, 0), (1, 0)), ((1, 0), (0, 0)), ((1, 0), (1, 0))])
        self.assertEqual(list(comings_of(EXAMPLE, EXAMPLE.own, 3)), [((0, 0),) * 3])

    def test_none_at_all(self):
        self.assertEqual(list(comings_of(EXAMPLE, BOTH, 0)), [()])
        self.assertEqual(list(comings_of(EMPTY, (), 2)), [((), ())])

    def test_as_told_for_many_plans(self):
        for plan, filling in many_fillings(41, 60, broken=3):
            for many in (0, 1, 2):
                told = list(itertools.product(naive.all_comings(plan, filling), repeat=many))
                self.assertEqual(list(comings_of(plan, filling, many)), told)

    def test_a_long_row_begins_at_once(self):
        it = iter(comings_of(WIDE, (("gate", 2),) * 6, 60))
        self.assertEqual(next(it), ((0,) * 6,) * 60)
        self.assertEqual(next(it), ((0,) * 6,) * 59 + ((0, 0, 0, 0, 0, 1),))

    def test_bad_filling_when_iterated(self):
        it = comings_of(EXAMPLE, (("gate", 9), None), 1)
        self.assertEqual(error_of(list, it), ("BadFilling", 0))
        self.assertEqual(error_of(list, comings_of(EXAMPLE, (), 1)), ("BadFilling", -1))


class ShowingsTest(unittest.TestCase):
    def test_plain_ones(self):
        self.assertEqual(showings(EXAMPLE, EXAMPLE.own, ((0,), (1,))), (((0,), (0,)),))
        self.assertEqual(showings(EXAMPLE, FLEES, [[0], [0]]), (((0,), (0,)), ((0,), (1,))))
        self.assertEqual(showings(EXAMPLE, FLEES, ((0,),), ["g", "in", "g"]), (((0, 0, 0),), ((1, 0, 1),)))
        self.assertEqual(showings(STILL, (("fixed", 1),), ((), ())), (((0,), (0,)), ((0,), (2,)), ((2,), (0,)), ((2,), (2,))))
        self.assertEqual(showings(EMPTY, (), ((1,),)), (((1,),),))

    def test_as_told_for_many_plans(self):
        chance = random.Random(5)
        several = 0
        for plan, filling in many_fillings(42, 400, broken=4, places=(1, 2, 3, 4)):
            row = any_row(chance, plan, 3)
            lines = tuple(chance.choice(plan.lines) for _ in range(chance.randrange(1, 7)))
            told = naive.showings(plan, filling, row, lines)
            several += len(told) > 2
            self.assertEqual(showings(plan, filling, row, lines=lines), told)
            self.assertEqual(showings(plan, filling, row), naive.showings(plan, filling, row, plan.exits))
        self.assertGreater(several, 40)

    def test_500_and_501(self):
        live = Kind(2, "live", 1, (0, 0, 1, 1), start=1, ways=(("flees", "dies", (0, 0, 1, 0)),))
        free = Kind(2, "free", 2, (0, 0, 0, 0), ways=(("flees", "bit", (0, 0, 0, 1)),))
        plan = Plan(Catalogue(2, (live, free)), ("a", "b"),
                    (("k", ("live",), ("b",), 1), ("g", ("free",), ("k", "a"), 1)), ("k", "g"))
        filling = (("live", 1), ("free", 1))
        # Ahead of what is told already, one step doubles the showings, and one adds a single one to them.
        double, add = (1, 0), (0, 1)
        row = (double, double, add, double, double, add, double, add, double, add, double, add, double)
        self.assertEqual(naive.showings(plan, filling, row[-4:], plan.exits), showings(plan, filling, row[-4:]))
        self.assertEqual(len(showings(plan, filling, row[-4:])), 7)
        self.assertEqual(len(showings(plan, filling, row)), 500)
        self.assertEqual(len(showings(plan, filling, row + ((0, 0),) * 40)), 500)
        self.assertEqual(error_of(showings, plan, filling, (add, *row)), ("TooMany", "showing"))
        self.assertEqual(error_of(showings, plan, filling, (add, *row) + ((0, 0),) * 40), ("TooMany", "showing"))

    def test_many_lines_and_steps(self):
        filling = (("gate", 2),) * 6
        self.assertEqual(len(showings(WIDE, filling, ((0,),), WIDE.lines)), 64)
        self.assertEqual(len(showings(WIDE, filling, ((0,),) * 8 + ((1,),) * 52)), 256)
        self.assertEqual(error_of(showings, WIDE, filling, ((0,),) * 60, WIDE.lines), ("TooMany", "showing"))

    def test_errors_in_order(self):
        self.assertEqual(error_of(showings, EXAMPLE, (), (), ("no",)), ("BadFilling", -1))
        self.assertEqual(error_of(showings, EXAMPLE, FLEES, (), ("no",)), ("BadRow", -1))
        self.assertEqual(error_of(showings, EXAMPLE, FLEES, ((0,), (0, 0)), ("no",)), ("BadRow", 1))
        self.assertEqual(error_of(showings, WIDE, (("gate", 2),) * 6, ((0,),) * 61, ("no",)), ("BadRow", -1))
        self.assertEqual(error_of(showings, WIDE, (("gate", 2),) * 6, ((0,),) * 60, ("p", "no")), ("Unknown", "no"))


class SightsTest(unittest.TestCase):
    def test_shows(self):
        row = ((0,), (0,))
        self.assertIs(shows(EXAMPLE, FLEES, row, ((1, "c", 1),)), True)
        self.assertIs(shows(EXAMPLE, EXAMPLE.own, row, ((1, "c", 1),)), False)
        self.assertIs(shows(EXAMPLE, FLEES, row, [[0, "g", 0], [1, "c", 1]]), False)
        self.assertIs(shows(EXAMPLE, FLEES, row, ((1, "c", 1), (0, "g", 1), (1, "g", 0), (0, "in", 0))), True)
        self.assertIs(shows(EXAMPLE, FLEES, row, ((0, "in", 1),)), False)

    def test_what_comes_at_one_step_does_so_for_all_lines(self):
        plan = Plan(CATALOGUE, ("a",), (("p", ("gate",), ("a", "a"), 1), ("t", ("turn",), ("p",), 1)), ("t",))
        filling = (("gate", 2), ("turn", 0))
        self.assertIs(shows(plan, filling, ((0,),), ((0, "p", 1), (0, "t", 0))), True)
        self.assertIs(shows(plan, filling, ((0,),), ((0, "p", 1), (0, "t", 1))), False)

    def test_shows_as_told_for_many_plans(self):
        chance = random.Random(6)
        told = {True: 0, False: 0}
        for plan, filling in many_fillings(43, 300, broken=4, places=(1, 2, 3, 4)):
            row = any_row(chance, plan, 3)
            spots = [(at, line) for at in range(len(row)) for line in plan.lines]
            chosen = chance.sample(spots, min(len(spots), chance.randrange(1, 4)))
            sights = tuple((at, line, chance.randrange(plan.catalogue.signs)) for at, line in chosen)
            whole = naive.showings(plan, filling, row, plan.lines)
            wanted = any(all(showing[at][plan.lines.index(line)] == sign for at, line, sign in sights)
                         for showing in whole)
            told[wanted] += 1
            self.assertIs(shows(plan, filling, row, sights), wanted)
        self.assertGreater(min(told.values()), 50)

    def test_bad_sights(self):
        row = ((0,), (0,))
        six = [(at, line, 0) for at in (0, 1) for line in ("in", "g", "c")]
        self.assertIs(shows(EXAMPLE, EXAMPLE.own, row, six), True)
        for sights in (None, (), [], (*six, (0, "c", 0)), "abc", 3):
            self.assertEqual(error_of(shows, EXAMPLE, FLEES, row, sights), ("BadSights", -1), sights)
        for sight in (None, "0c1", (0, "c"), (0, "c", 1, 1), (2, "c", 1), (-1, "c", 1), (True, "c", 1), ("0", "c", 1),
                      (0, "no", 1), (0, None, 1), (0, ["c"], 1), (0, "c", 2), (0, "c", -1), (0, "c", True), (0, "c", "1"),
                      (0, "g", 1), (0, "g", 0), [0, "g", 0]):
            self.assertEqual(error_of(shows, EXAMPLE, FLEES, row, ((0, "g", 0), sight, None)), ("BadSights", 1), sight)

    def test_errors_in_order(self):
        self.assertEqual(error_of(shows, EXAMPLE, (("gate", 0), None), (), ()), ("BadFilling", 1))
        self.assertEqual(error_of(shows, EXAMPLE, FLEES, ((0,), None), ()), ("BadRow", 1))
        self.assertEqual(error_of(shows, EXAMPLE, FLEES, ((0,),) * 61, ()), ("BadRow", -1))
        self.assertEqual(error_of(shows, EXAMPLE, FLEES, ((0,),), ((1, "c", 0),)), ("BadSights", 0))


class ReadableTest(unittest.TestCase):
    def test_plain_ones(self):
        self.assertEqual(readable(EXAMPLE, FLEES, ((0,), (0,)), "c"), (0, 1))
        self.assertEqual(readable(EXAMPLE, FLEES, [[0]], "c"), (0,))
        self.assertEqual(readable(EXAMPLE, FLEES, ((0,), (1,)), "in"), (1,))
        self.assertEqual(readable(STILL, (("fixed", 1),), ((),) * 60, "s"), (0, 2))
        self.assertEqual(readable(TURNED, TURNED.own, ((0, 0), (0, 0)), "j"), (1,))

    def test_as_told_for_many_plans(self):
        chance = random.Random(7)
        for plan, filling in many_fillings(44, 200, broken=4, places=(1, 2, 3, 4)):
            row = any_row(chance, plan, 3)
            for line in plan.lines:
                told = naive.showings(plan, filling, row, (line,))
                self.assertEqual(readable(plan, filling, row, line), tuple(sorted({showing[-1][0] for showing in told})))

    def test_errors_in_order(self):
        self.assertEqual(error_of(readable, EXAMPLE, None, (), "no"), ("BadFilling", -1))
        self.assertEqual(error_of(readable, EXAMPLE, FLEES, ((2,),), "no"), ("BadRow", 0))
        for line in ("no", "gate", None, 0, ["c"]):
            self.assertEqual(error_of(readable, EXAMPLE, FLEES, ((0,),), line), ("Unknown", line))
