import unittest

from tests.judged import Judge
from tests.repairs import (BLINKED, FLASH, MEND, ONE, STUCK, TURN, ZERO, Reader, lamp_case, manual_of, many_rich_works,
                           many_wire_works, many_works,
                           plain_runs, wire_case)
from tests.samples import EMPTY
from tinkerhall.cases import Case
from tinkerhall.manuals import Manual
from tinkerhall.totals import bills, most_minutes, needs

LOOK = ("look", "one", "g")


def plain_needs(case, manual):
    """The fewest parts on the shelf with which every run in every world has the same events."""
    def events(shelf):
        cut = Case(case.plan, case.kinds, case.placed, shelf, case.worlds, bench=case.bench)
        return [[told[:2] for told in plain_runs(cut, manual, world)] for world in range(len(case))]

    whole = events(case.shelf)
    return min(many for many in range(len(case.shelf) + 1) if events(case.shelf[:many]) == whole)


class BillsTest(unittest.TestCase):
    def test_bills(self):
        case = wire_case((), ZERO, TURN, STUCK)
        self.assertEqual(case.worlds, ((0,) * 5, (0, 1, 0, 0, 0), (1, 0, 0, 0, 0), (3, 0, 0, 0, 0)))
        self.assertEqual(bills(case, manual_of(*MEND)), ((3, 3, 0, 0), (3, 3, 0, 0), (6, 6, 3, 3), (3, 6, 0, 3)))
        self.assertEqual(most_minutes(case, manual_of(*MEND)), (6, 2))
        # What is put back costs nothing in the end; a run can lack a part.
        both = manual_of(LOOK, ("if", (0,), (("swap", "g"), ("back", "g")), (("swap", "c"), ("swap", "c"))))
        self.assertEqual(bills(case, both), ((8, 8, 10, 10), (8, 8, 10, 10), (9, 9, 0, 0), (8, 9, 0, 10)))
        self.assertEqual(most_minutes(case, both), (9, 2))

    def test_a_price_below_0(self):
        case = wire_case((), shelf=(2, 3), bench=(("g", 4),))
        self.assertEqual(bills(case, manual_of(("back", "g"), ("back", "g"))), ((3, 3, -3, -3),))

    def test_the_first_world_with_the_most(self):
        self.assertEqual(most_minutes(wire_case((), ZERO, ONE, STUCK), manual_of(LOOK)), (3, 0))
        self.assertEqual(most_minutes(wire_case((), ZERO), manual_of()), (0, 0))
        empty = Case(EMPTY, (), (), (), ((),))
        self.assertEqual((bills(empty, manual_of()), most_minutes(empty, manual_of())), (((0, 0, 0, 0),), (0, 0)))

    def test_minutes_and_price_of_different_runs(self):
        # The dear run is the quick one.
        manual = Manual(FLASH, (("main", (BLINKED, ("if", (0,), (BLINKED,) * 5, (("swap", "s"),)))),))
        self.assertEqual(bills(lamp_case(1), manual), ((11, 12, 0, 7),))

    def test_many_runs(self):
        manual = Manual(FLASH, (("main", (("repeat", 4, (BLINKED,) * 20),)),))
        self.assertEqual(bills(lamp_case(0), manual), ((160, 160, 0, 0),))

    def test_as_told_for_many(self):
        for case, manual in (*many_works(321, 400), *many_rich_works(300, 300), *many_wire_works(301, 200)):
            wanted = Judge(case, manual).bills()
            self.assertEqual(bills(case, manual), wanted)
            most = [told[1] for told in wanted]
            self.assertEqual(most_minutes(case, manual), (max(most), most.index(max(most))))


class NeedsTest(unittest.TestCase):
    def test_needs(self):
        case = wire_case((), ZERO)
        self.assertEqual(needs(case, manual_of(*MEND)), 1)
        self.assertEqual(needs(wire_case(()), manual_of(*MEND)), 0)
        self.assertEqual(needs(case, manual_of(("swap", "c"))), 2)
        self.assertEqual(needs(case, manual_of(("swap", "g"), ("swap", "g"))), 3)
        # The same part, put back and taken again.
        self.assertEqual(needs(case, manual_of(("repeat", 3, (("swap", "g"), ("back", "g"))))), 1)
        # What lacks with all of them lacks with fewer.
        self.assertEqual(needs(case, manual_of(("swap", "c"), ("swap", "c"))), 2)
        self.assertEqual(needs(case, manual_of(("look", "one", "g"))), 0)
        # Just one run needs it.
        self.assertEqual(needs(wire_case((), TURN), manual_of(LOOK, LOOK,
                                                              ("if", (0,), (("swap", "g"), ("swap", "g")), ()))), 3)

    def test_parts_of_the_bench(self):
        # The part 4, of the bench, and then the part 0, come back on the shelf ahead of the others.
        case = wire_case((), placed=(0, 1), shelf=(3, 2), bench=(("g", 4),))
        self.assertEqual(needs(case, manual_of(("back", "g"), ("swap", "g"))), 0)
        self.assertEqual(needs(case, manual_of(("back", "g"), ("swap", "g"), ("swap", "g"))), 2)
        self.assertEqual(needs(case, manual_of(("back", "g"), ("swap", "c"))), 1)

    def test_as_told_for_many(self):
        told = {}
        for case, manual in (*many_works(323, 400), *many_rich_works(300, 300), *many_wire_works(301, 200)):
            self.assertEqual(needs(case, manual), plain_needs(case, manual))
            told[needs(case, manual)] = told.get(needs(case, manual), 0) + 1
        self.assertGreater(min(told[many] for many in (0, 1, 2)), 15)

    def test_a_reader_sees_the_same(self):
        case = wire_case((), ZERO)
        cut = wire_case((), ZERO, shelf=(2,))
        self.assertEqual(Reader(case, manual_of(*MEND), (0,)).events, Reader(cut, manual_of(*MEND), (0,)).events)
