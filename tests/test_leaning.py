import unittest

from tests.judged import Judge
from tests.raising import error_of
from tests.repairs import (BLINKED, FLASH, MEND, ONE, STUCK, TESTS, TURN, ZERO, lamp_case, manual_of, many_rich_works,
                           many_wire_works, many_works,
                           wire_case)
from tests.samples import STILL
from tinkerhall.cases import Case
from tinkerhall.kinds import Catalogue, Kind
from tinkerhall.leaning import leaned
from tinkerhall.manalike import manuals_alike, outcomes
from tinkerhall.manuals import Manual
from tinkerhall.plans import Plan
from tinkerhall.totals import bills
from tinkerhall.verdicts import Verdict

LOOK, SWAP, DONE, QUIT = ("look", "one", "g"), ("swap", "g"), ("done",), ("quit",)


def lean_body(case, *body, **chapters):
    return leaned(case, manual_of(*body, **chapters))["main"]


class LeanedTest(unittest.TestCase):
    def test_a_look_that_tells_something(self):
        case = wire_case((), ZERO)
        lean = leaned(case, manual_of(*MEND))
        self.assertIsInstance(lean, Manual)
        self.assertEqual(lean.tests, TESTS[:1])
        self.assertEqual(lean.chapters, (("main", (LOOK, ("if", (0,), (SWAP, DONE), (DONE,)))),))

    def test_a_look_that_tells_nothing(self):
        self.assertEqual(leaned(wire_case(), manual_of(*MEND)), Manual((), (("main", (DONE,)),)))
        self.assertEqual(lean_body(wire_case(ZERO), *MEND), (SWAP, DONE))
        # The second look at the same place tells nothing any more, unless the part comes and goes.
        twice = (LOOK, LOOK, ("if", (0,), (SWAP,), ()), DONE)
        self.assertEqual(lean_body(wire_case((), ZERO), *twice), (LOOK, ("if", (0,), (SWAP, DONE), (DONE,))))
        self.assertEqual(lean_body(wire_case(TURN), *twice), (
            LOOK, ("if", (0,), (LOOK, ("if", (0,), (SWAP, DONE), (DONE,))), (LOOK, ("if", (0,), (SWAP, DONE), (DONE,))))))

    def test_ends(self):
        case = wire_case((), ZERO)
        self.assertEqual(lean_body(case), (QUIT,))
        self.assertEqual(lean_body(case, QUIT, SWAP), (QUIT,))
        self.assertEqual(lean_body(case, ("say", "c"), DONE, ("say", "g")), (("say", "c"), DONE))
        # A swap that lacks a part ends what is written.
        self.assertEqual(lean_body(case, ("swap", "c"), ("swap", "c"), SWAP, DONE), (("swap", "c"), ("swap", "c")))
        self.assertEqual(lean_body(case, LOOK, ("if", (1,), (("swap", "c"), ("swap", "c")), ())),
                         (LOOK, ("if", (0,), (QUIT,), (("swap", "c"), ("swap", "c")))))

    def test_put_back(self):
        case = wire_case(ZERO)
        self.assertEqual(lean_body(case, ("back", "g"), SWAP, ("back", "c"), ("back", "g"), ("back", "g")),
                         (SWAP, ("back", "g"), QUIT))

    def test_one_chapter_with_the_name_of_the_first(self):
        manual = Manual(TESTS, (("first", (("repeat", 2, (("call", "sub"),)),)),
                                ("sub", (("say", "g"), ("call", "low"))), ("low", ())))
        self.assertEqual(leaned(wire_case(), manual), Manual((), (("first", (("say", "g"), ("say", "g"), QUIT)),)))

    def test_tests_in_their_order(self):
        tests = (("tc", ((1,), (1,))), ("ta", ((0,), (0,))), ("tb", ((1,),)), ("td", ((0,),)))
        case = wire_case((), ZERO, ONE)
        manual = Manual(tests, (("main", (("look", "tb", "g"), ("look", "tc", "in"), ("look", "ta", "g"))),))
        lean = leaned(case, manual)
        # Whether 0 or 1 is read of the first test, the other one tells whether the wire is whole.
        self.assertEqual(lean.tests, (tests[1], tests[2]))
        self.assertEqual(lean["main"], (("look", "tb", "g"), ("if", (0,), (QUIT,),
                                                              (("look", "ta", "g"), ("if", (0,), (QUIT,), (QUIT,))))))

    def test_three_signs(self):
        lamp = Kind(3, "lamp", 0, (0,), ways=(("stands", "one", (1,)), ("stands", "two", (2,))))
        plan = Plan(Catalogue(3, (lamp,)), (), (("p", ("lamp",), (), 1),), ("p",))
        look = ("look", "now", "p")
        manual = Manual(FLASH, (("main", (look, ("if", (1, 2), (("say", "p"),), ()), ("if", (2,), (("swap", "p"),), ()),
                                          DONE)),))
        case = Case(plan, ("lamp", "lamp"), (0,), (1,), ((0, 0), (1, 0), (2, 0)))
        three = (look, ("if", (0,), (DONE,), (("if", (1,), (("say", "p"), DONE), (("say", "p"), ("swap", "p"), DONE)),)))
        self.assertEqual(leaned(case, manual)["main"], three)
        self.assertEqual(leaned(case.with_worlds((0, 2)), manual)["main"],
                         (look, ("if", (0,), (DONE,), (("say", "p"), ("swap", "p"), DONE))))
        self.assertEqual(leaned(case.with_worlds((1, 2)), manual)["main"],
                         (look, ("if", (1,), (("say", "p"), DONE), (("say", "p"), ("swap", "p"), DONE))))

    def test_no_entry(self):
        case = Case(STILL, ("fixed",), (0,), (), ((0,), (1,)))
        manual = Manual(FLASH, (("main", (("look", "now", "s"), ("if", (0,), (QUIT,), (DONE,)))),))
        self.assertEqual(leaned(case, manual)["main"], (("look", "now", "s"), ("if", (0,), (QUIT,), (DONE,))))

    def test_200_statements_and_201(self):
        case = wire_case()
        says = ("repeat", 4, (("say", "g"),) * 49)
        lean = leaned(case, manual_of(says, *[("say", "g")] * 3))
        self.assertEqual((len(lean["main"]), len(list(lean.statements()))), (200, 200))
        self.assertEqual(error_of(leaned, case, manual_of(says, *[("say", "g")] * 4)), ("TooLong", 201))
        # Each of these looks doubles what is written behind it: 2 to the 80 leaves, and as many looks and ifs, but one of each.
        manual = Manual(FLASH, (("main", (("repeat", 4, (BLINKED,) * 20),)),))
        self.assertEqual(error_of(leaned, lamp_case(0), manual), ("TooLong", 2 ** 80 + 2 * (2 ** 80 - 1)))
        six = Manual(FLASH, (("main", (("repeat", 3, (BLINKED,) * 2),)),))
        self.assertEqual(len(list(leaned(lamp_case(0), six).statements())), 64 + 2 * 63)

    def test_as_told_for_many(self):
        long = 0
        for case, manual in (*many_works(331, 400), *many_rich_works(300, 300), *many_wire_works(301, 200)):
            judge = Judge(case, manual)
            body = judge.lean_body(judge.beginning())
            wanted = [statement for statement in _all(body)]
            if len(wanted) > 200:
                self.assertEqual(error_of(leaned, case, manual), ("TooLong", len(wanted)))
                long += 1
                continue
            used = {statement[1] for statement in wanted if statement[0] == "look"}
            lean = leaned(case, manual)
            self.assertEqual(lean.chapters, ((manual.chapters[0][0], body),))
            self.assertEqual(lean.tests, tuple(test for test in manual.tests if test[0] in used))
        self.assertGreater(long, 0)

    def test_what_it_does(self):
        shorter = 0
        for case, manual in (*many_works(333, 200), *many_rich_works(300, 300), *many_wire_works(301, 200)):
            if error_of(leaned, case, manual) is not None:
                continue
            lean = leaned(case, manual)
            self.assertEqual(leaned(case, lean), lean)
            self.assertIsNone(manuals_alike(case, manual, lean))
            for world, (told, other) in enumerate(zip(bills(case, manual), bills(case, lean))):
                self.assertEqual(outcomes(case, manual, world), outcomes(case, lean, world))
                self.assertLessEqual(other[1], told[1])
                self.assertLessEqual(other[0], told[0])
                self.assertEqual(other[2:], told[2:])
            shorter += bills(case, manual) != bills(case, lean)
            for limit in (0, 5, 20):
                for strict in (True, False):
                    if Verdict(case, manual, limit, strict=strict):
                        self.assertTrue(Verdict(case, lean, limit, strict=strict))
        self.assertGreater(shorter, 50)

    def test_stuck(self):
        # A test that no world can pass by leaves the body of the other sign out.
        case = wire_case(STUCK)
        self.assertEqual(lean_body(case, ("look", "two", "c"), ("if", (1,), (DONE,), (("swap", "c"), DONE))),
                         (("swap", "c"), DONE))


def _all(body):
    for statement in body:
        yield statement
        for inner in statement[2:] if statement[0] == "if" else ():
            yield from _all(inner)
