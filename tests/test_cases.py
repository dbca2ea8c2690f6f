import itertools
import unittest

from tests.raising import error_of
from tests.samples import CATALOGUE, EMPTY, EXAMPLE
from tinkerhall.cases import Case
from tinkerhall.kinds import Catalogue, Kind
from tinkerhall.plans import Plan

# Parts: 0 in g, 1 in c, 2 and 3 and 4 on the shelf, 5 and 6 on the bench, 7 elsewhere.
KINDS = ("gate", "cell", "cold", "join", "gate", "gate", "join", "turn")
PLACED = (0, 1)
SHELF = (2, 3, 4)
BENCH = (("g", 5), ("g", 6))
WHOLE = (0,) * 8


def world(**broken):
    """A world of the parts told, as p0=1."""
    return tuple(broken.get(f"p{part}", 0) for part in range(len(KINDS)))


def made(plan=EXAMPLE, kinds=KINDS, placed=PLACED, shelf=SHELF, worlds=(WHOLE,), bench=BENCH):
    return Case(plan, kinds, placed, shelf, worlds, bench=bench)


def case_error(**told):
    return error_of(made, **told)


class CaseTest(unittest.TestCase):
    def test_attributes_are_tuples(self):
        case = Case(EXAMPLE, list(KINDS), [0, 1], [2, 3, 4], [list(WHOLE)], bench=[["g", 5], ["g", 6]])
        self.assertEqual(case, made())
        self.assertEqual((case.kinds, case.placed, case.shelf, case.bench, case.worlds),
                         (KINDS, PLACED, SHELF, BENCH, (WHOLE,)))
        self.assertEqual(case.arrangement, (PLACED, SHELF, BENCH))
        self.assertIs(case.plan, EXAMPLE)
        self.assertEqual(Case(EXAMPLE, KINDS, PLACED, SHELF, (WHOLE,)).bench, ())

    def test_worlds_in_order(self):
        worlds = (world(p4=2, p1=1), world(p0=3), world(p7=1), world(p0=1, p5=1), WHOLE, world(p0=2), world(p1=1))
        case = made(worlds=worlds)
        told = (WHOLE, world(p7=1), world(p1=1), world(p0=2), world(p0=3), world(p4=2, p1=1), world(p0=1, p5=1))
        self.assertEqual(case.worlds, told)
        self.assertEqual((len(case), case[3], list(case)), (7, world(p0=2), list(told)))

    def test_equal(self):
        worlds = (WHOLE, world(p0=1))
        self.assertEqual(made(worlds=worlds), made(worlds=worlds[::-1]))
        for other in ({"worlds": (WHOLE,)}, {"shelf": (3, 2, 4)}, {"bench": BENCH[::-1]}, {"placed": (4, 1), "shelf": ()},
                      {"kinds": (*KINDS[:7], "cold")}, {"plan": EXAMPLE.changed(exits=("g",))}):
            self.assertNotEqual(made(**{"worlds": worlds, **other}), made(worlds=worlds), other)
        self.assertFalse(made() == "case")

    def test_no_place(self):
        case = Case(EMPTY, (), (), (), ((),))
        self.assertEqual((len(case), case[0], case.filling_in(0), case.broken(0)), (1, (), (), ()))

    def test_case_of(self):
        kinds = ("gate", "cell", "turn")
        case = Case.of(EXAMPLE, kinds, [0, 1], [], 1)
        told = ((0, 0, 0), (0, 0, 1), (0, 1, 0), (0, 2, 0), (1, 0, 0), (2, 0, 0), (3, 0, 0))
        self.assertEqual(case, Case(EXAMPLE, kinds, (0, 1), (), told))
        self.assertEqual(case.worlds, told)
        self.assertEqual(Case.of(EXAMPLE, kinds, (0, 1), (), 0).worlds, ((0, 0, 0),))
        every = tuple(itertools.product(range(4), range(3), range(2)))
        for most in (3, 10):
            self.assertEqual(sorted(Case.of(EXAMPLE, kinds, (0, 1), (), most).worlds), sorted(every))
        self.assertEqual(Case.of(EXAMPLE, KINDS, PLACED, SHELF, 0, bench=list(BENCH)), made())

    def test_300_worlds_and_301(self):
        many = Kind(2, "many", 0, (0,), ways=[("stands", name, (1,)) for name in "abcdef"])
        few = Kind(2, "few", 0, (0,), ways=[("stands", name, (1,)) for name in "abcd"])
        one = Kind(2, "one", 0, (0,), ways=[("stands", "a", (1,))])
        two = Kind(2, "two", 0, (0,), ways=[("stands", name, (1,)) for name in "ab"])
        plan = Plan(Catalogue(2, (many, few, one, two)), ("a",), (), ("a",))
        # 5 * 5 * 3 * 2 * 2 worlds.
        kinds = ("few", "few", "two", "one", "one")
        self.assertEqual(len(Case.of(plan, kinds, (), (), 5)), 300)
        self.assertEqual(error_of(Case.of, plan, (*kinds, "one"), (), (), 6), ("BadCase", "worlds"))
        self.assertEqual(len(Case.of(plan, ("many",) * 3, (), (), 2)), 1 + 18 + 108)
        self.assertEqual(error_of(Case.of, plan, ("many",) * 10, (), (), 10), ("BadCase", "worlds"))
        self.assertEqual(len(Case.of(plan, ("many",) * 10, (), (), 1)), 61)
        all_worlds = list(itertools.product(range(7), repeat=3))
        self.assertEqual(len(Case(plan, ("many",) * 3, (), (), all_worlds[:300])), 300)
        self.assertEqual(error_of(Case, plan, ("many",) * 3, (), (), all_worlds[:301]), ("BadCase", "worlds"))

    def test_case_of_errors(self):
        self.assertEqual(error_of(Case.of, EXAMPLE, ("no",), None, None, 10, bench=None), ("BadCase", "kinds"))
        ten = ("gate", "cell") * 5
        self.assertEqual(error_of(Case.of, EXAMPLE, ten, (1, 0), None, 10, bench=None), ("BadCase", "placed"))
        self.assertEqual(error_of(Case.of, EXAMPLE, ten, (0, 1), (1,), 10, bench=None), ("BadCase", "shelf"))
        self.assertEqual(error_of(Case.of, EXAMPLE, ten, (0, 1), (), 10, bench=None), ("BadCase", "bench"))
        self.assertEqual(error_of(Case.of, EXAMPLE, ten, (0, 1), (), 10), ("BadCase", "worlds"))


class ArrangementTest(unittest.TestCase):
    def test_filling_in_and_broken(self):
        case = made(worlds=(WHOLE, world(p0=1, p3=1, p7=1), world(p1=2)))
        self.assertEqual([case.filling_in(number) for number in range(3)],
                         [(("gate", 0), ("cell", 0)), (("gate", 0), ("cell", 2)), (("gate", 1), ("cell", 0))])
        self.assertEqual([case.broken(number) for number in range(3)], [(), (1,), (0, 3, 7)])
        self.assertEqual(case.filling_in(2, [[3, 2], [0, 1], []]), (("join", 1), ("cold", 0)))

    def test_swapped(self):
        case = made()
        # Part 2 does not fit in g; part 3, a stand-in, does so ahead of part 4.
        first = ((3, 1), (2, 4), (*BENCH, ("g", 0)))
        self.assertEqual(case.swapped("g"), first)
        second = ((4, 1), (2,), (*BENCH, ("g", 0), ("g", 3)))
        self.assertEqual(case.swapped("g", first), second)
        self.assertIsNone(case.swapped("g", arrangement=second))
        self.assertEqual(case.swapped("c", second), ((4, 2), (), (*BENCH, ("g", 0), ("g", 3), ("c", 1))))
        self.assertEqual(case.swapped("c", [[0, 1], [3, 2], [["g", 5]]]), ((0, 2), (3,), (("g", 5), ("c", 1))))
        self.assertEqual(case.arrangement, (PLACED, SHELF, BENCH))

    def test_put_back(self):
        case = made()
        first = ((6, 1), (0, 2, 3, 4), (("g", 5),))
        self.assertEqual(case.put_back("g"), first)
        self.assertEqual(case.put_back("g", first), ((5, 1), (6, 0, 2, 3, 4), ()))
        self.assertEqual(case.put_back("c"), (PLACED, SHELF, BENCH))
        self.assertEqual(case.put_back("c", [[0, 1], [2], [["g", 5]]]), ((0, 1), (2,), (("g", 5),)))
        mixed = ((0, 1), (), (("g", 5), ("c", 2), ("g", 6), ("c", 7)))
        self.assertEqual(case.put_back("g", mixed), ((6, 1), (0,), (("g", 5), ("c", 2), ("c", 7))))
        # Putting back what was swapped in leaves it at the front of the shelf.
        self.assertEqual(case.put_back("g", case.swapped("g")), ((0, 1), (3, 2, 4), BENCH))

    def test_cleared(self):
        case = made(worlds=(WHOLE, world(p1=1), world(p0=1)))
        self.assertIs(case.cleared("g", (0, 1)), True)
        self.assertIs(case.cleared("g", (0, 2)), False)
        self.assertIs(case.cleared("c", [0, 2]), True)
        self.assertIs(case.cleared("c", (1,)), False)
        self.assertIs(case.cleared("g", ()), True)
        # A stand-in is never cleared.
        stand_in = ((3, 2), (), ())
        self.assertEqual([case.cleared(place, (0,), stand_in) for place in ("g", "c")], [False, False])
        self.assertIs(case.cleared("g", (), arrangement=stand_in), False)
        self.assertIs(case.cleared("g", (2,), [[4, 1], [], []]), True)

    def test_with_worlds(self):
        case = made(worlds=(WHOLE, world(p0=1), world(p1=1)))
        self.assertEqual(case.with_worlds((0, 2)), made(worlds=(WHOLE, case[2])))
        self.assertEqual(case.with_worlds([1]).worlds, (case[1],))
        self.assertEqual(len(case), 3)

    def test_unknown(self):
        for place in ("in", "no", None, 0, ["g"]):
            self.assertEqual(error_of(made().swapped, place), ("Unknown", place))
            self.assertEqual(error_of(made().put_back, place), ("Unknown", place))
            self.assertEqual(error_of(made().cleared, place, (0,)), ("Unknown", place))


class BadCaseTest(unittest.TestCase):
    def test_kinds(self):
        for kinds in (None, "gate", ("no",), (*KINDS, "Gate"), (*KINDS, None), (*KINDS, 1), (*KINDS, "gate", "gate", "gate")):
            self.assertEqual(case_error(kinds=kinds, placed=None, shelf=None, bench=None, worlds=None), ("BadCase", "kinds"))
        ten = (*KINDS, "gate", "gate")
        self.assertIsNone(case_error(kinds=ten, worlds=((0,) * 10,)))

    def test_placed(self):
        for placed in (None, (), (0,), (0, 1, 2), (1, 0), (0, 0), (0, 3), (0, 8), (-1, 1), (False, 1), (0, True), ("0", 1),
                       (None, 1), "01", (0, [1])):
            self.assertEqual(case_error(placed=placed, shelf=None, bench=None, worlds=None), ("BadCase", "placed"), placed)
        self.assertIsNone(case_error(placed=(3, 2), shelf=()))

    def test_shelf(self):
        for shelf in (None, "2", (2, 2), (0,), (2, 1), (8,), (-1,), (2, True), ("2",), (None,), ((2,),)):
            self.assertEqual(case_error(shelf=shelf, bench=None, worlds=None), ("BadCase", "shelf"), shelf)
        self.assertIsNone(case_error(shelf=(7, 4)))

    def test_bench(self):
        for bench in (None, "g5", (5,), ("g5",), (("g",),), (("g", 5, 1),), (("g", 5), ("g", 5)), (("g", 5), ("c", 5)),
                      (("g", 0),), (("g", 3),), (("in", 5),), (("no", 5),), ((None, 5),), (("c", 5),), (("g", 7),),
                      (("g", 8),), (("g", "5"),), (("g", True),), ((["g"], 5),)):
            self.assertEqual(case_error(bench=bench, worlds=None), ("BadCase", "bench"), bench)
        self.assertIsNone(case_error(bench=(("c", 2), ("g", 6)), shelf=(7,)))

    def test_worlds(self):
        for worlds in (None, (), [], "0" * 8, WHOLE, (WHOLE, WHOLE), (WHOLE, list(WHOLE)), (WHOLE[:7],), ((*WHOLE, 0),),
                       (world(p0=4),), (world(p7=2),), (world(p0=-1),), (world(p0=True),), (world(p0="1"),),
                       (WHOLE, None), ("0" * 8,)):
            self.assertEqual(case_error(worlds=worlds), ("BadCase", "worlds"), worlds)
        self.assertIsNone(case_error(worlds=(world(p0=3), world(p7=1))))

    def test_nothing_that_was_passed_is_changed(self):
        worlds = [list(world(p0=1)), list(WHOLE)]
        shelf = [2, 3]
        case = made(worlds=worlds, shelf=shelf)
        self.assertEqual(worlds, [list(world(p0=1)), list(WHOLE)])
        shelf.append(4)
        worlds[0][0] = 2
        self.assertEqual((case.shelf, case.worlds), ((2, 3), (WHOLE, world(p0=1))))
        self.assertEqual(CATALOGUE, EXAMPLE.catalogue)
