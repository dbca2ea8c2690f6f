import unittest

from tests.raising import error_of
from tests.samples import CATALOGUE, EMPTY, EXAMPLE, STILL, TURNED, many_fillings, ring_of
from tinkerhall.plans import Plan
from tinkerhall.plantext import read_plan, write_plan

LINES = ("entry in", "place g 3 gate from in c", "place c 5 cell from g", "exit c")


class PlanTextTest(unittest.TestCase):
    def assert_bad(self, lines, line, word):
        self.assertEqual(error_of(read_plan, CATALOGUE, lines), ("BadLine", line, word), lines)

    def test_the_example(self):
        plan = Plan(CATALOGUE, ("in",), (("g", ("gate",), ("in", "c"), 3), ("c", ("cell",), ("g",), 5)), ("c",))
        self.assertEqual(read_plan(CATALOGUE, list(LINES)), plan)
        self.assertEqual(write_plan(plan), LINES)

    def test_written_and_read(self):
        self.assertEqual(write_plan(STILL), ("place s 1 fixed from", "exit s"))
        self.assertEqual(write_plan(EMPTY), ("entry in", "exit in"))
        self.assertEqual(write_plan(TURNED)[-2:], ("place j 60 join gate from k b", "exit j b"))
        plans = [plan for plan, _ in many_fillings(51, 60)]
        for plan in [EXAMPLE, TURNED, STILL, EMPTY, ring_of(3), *plans]:
            self.assertEqual(read_plan(plan.catalogue, write_plan(plan)), plan)

    def test_lines_that_cannot_come(self):
        for line in ("", "place", "exits c", " exit c", "Entry in", "from", None, 3, ["entry", "in"]):
            if line != "place":
                self.assert_bad((line, *LINES[1:]), 0, 0)
                self.assert_bad((*LINES[:1], line, *LINES[2:]), 1, 0)
                self.assert_bad((*LINES[:3], line), 3, 0)
        self.assert_bad((*LINES[:2], "entry a", *LINES[2:]), 2, 0)
        for line in ("exit c", "entry a", "place g 3 gate from", ""):
            self.assert_bad((*LINES, line), 4, 0)

    def test_lines_that_end_too_early(self):
        for many in range(4):
            self.assert_bad(LINES[:many], many, 0)

    def test_words_of_an_entry(self):
        for line, word in (("entry", 1), ("entry ", 1), ("entry In", 1), ("entry from", 1), ("entry  in", 1),
                           ("entry in in", 2), ("entry in ", 2)):
            self.assert_bad((line, *LINES[1:]), 0, word)

    def test_words_of_a_place(self):
        for line, word in (("place", 1), ("place G", 1), ("place exit", 1), ("place g", 2), ("place g 0", 2),
                           ("place g 61", 2), ("place g 03", 2), ("place g gate", 2), ("place g 3", 3), ("place g 3 from a", 3),
                           ("place g 3 Gate", 3), ("place g 3 gate", 4), ("place g 3 gate 4", 4), ("place g 3 gate join", 5),
                           ("place g 3 a b c", 6), ("place g 3 a b c d from", 6), ("place g 3 gate  from", 4),
                           ("place g 3 gate from ", 5), ("place g 3 gate from In", 5), ("place g 3 gate from from", 5),
                           ("place g 3 gate from in c ", 7), ("place g 3 gate from in c d", 7),
                           ("place g 3 gate from in  c", 6), ("place g 3 gate from in place", 6)):
            self.assert_bad((LINES[0], line, "never"), 1, word)

    def test_words_of_the_exits(self):
        for line, word in (("exit", 1), ("exit ", 1), ("exit C", 1), ("exit from", 1), ("exit c ", 2), ("exit c from", 2),
                           ("exit c g in", 3), ("exit c g ", 3), ("exit c  g", 2)):
            self.assert_bad((*LINES[:3], line), 3, word)

    def test_the_plan_judges_the_rest(self):
        def error(*lines):
            return error_of(read_plan, CATALOGUE, lines)
        self.assertEqual(error("entry a", "entry b", "entry c", "exit z"), ("BadPlan", "entries"))
        self.assertEqual(error("place a 1 gate gate from z", "exit z z"), ("BadPlace", 0))
        self.assertEqual(error("place a 1 gate from z", "exit z z"), ("BadPlan", "exits"))
        seven = [f"place {name} 1 turn from z" for name in "abcdefg"]
        self.assertEqual(error(*seven, "exit z"), ("TooMany", "place"))
        self.assertEqual(error(*seven[:2], seven[0], "exit z"), ("Twice", "a"))
        self.assertEqual(error("place a 1 gate no from z", "exit z"), ("Unknown", "no"))
        self.assertEqual(error("entry z", "place a 1 gate from z", "exit z"), ("Unfit", "a"))
        self.assertEqual(error("place a 1 turn from a", "exit a"), ("Ring", "a"))
        self.assertEqual(error("exit z"), ("Unknown", "z"))
        # A bad line far behind goes ahead of all of them.
        self.assert_bad(("entry a", "entry b", "entry c", *seven, "exit z", "exit"), 11, 0)
