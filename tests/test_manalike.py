import random
import unittest

from tests.judged import Judge, plain_alike
from tests.raising import error_of
from tests.repairs import (BLINKED, FLASH, MEND, STUCK, TURN, ZERO, any_manual, lamp_case, manual_of, many_rich_works,
                           many_wire_works, many_works,
                           wide_manual, wire_case)
from tests.samples import EMPTY
from tinkerhall.cases import Case
from tinkerhall.manalike import manuals_alike, outcomes
from tinkerhall.manuals import Manual

LOOK, SWAP, DONE, QUIT = ("look", "one", "g"), ("swap", "g"), ("done",), ("quit",)
SAY_B, SAY_S = ("say", "b"), ("say", "s")
# As many outcomes as are told by the name, for the lamps: between two says of b there are so many of s.
TWO = (BLINKED, ("if", (1,), (SAY_S,), ()), SAY_B)
FIVE = (("repeat", 4, (BLINKED, ("if", (0,), (("leave",),), ()), SAY_S)), SAY_B)
THOUSAND = (*TWO * 3, *FIVE * 3)
ONE_MORE = (BLINKED, ("if", (1,), (DONE,), ()), *THOUSAND)


def lamps(*body):
    return Manual(FLASH, (("main", body),))


class OutcomesTest(unittest.TestCase):
    def test_outcomes(self):
        case = wire_case((), ZERO, TURN)
        manual = manual_of(*MEND)
        self.assertEqual(outcomes(case, manual, 0), ((DONE,),))
        self.assertEqual(outcomes(case, manual, 1), ((("swap", "g", 2), DONE),))
        self.assertEqual(outcomes(case, manual, 2), ((DONE,), (("swap", "g", 2), DONE)))
        both = manual_of(LOOK, ("if", (0,), (SWAP, ("back", "g")), (("say", "c"), ("swap", "c"), ("swap", "c"))))
        self.assertEqual(outcomes(case, both, 2), ((("say", "c", 1), ("swap", "c", 3), ("lack", "c")),
                                                   (("swap", "g", 2), ("back", "g", 0), QUIT)))

    def test_many_runs_of_one_outcome(self):
        case = lamp_case(0)
        self.assertEqual(outcomes(case, lamps(("repeat", 4, (BLINKED,) * 30)), 0), ((QUIT,),))
        self.assertEqual(outcomes(case, lamps(BLINKED, BLINKED, ("if", (1,), (SAY_S,), ())), 0),
                         ((QUIT,), (("say", "s", 1), QUIT)))

    def test_no_place(self):
        case = Case(EMPTY, (), (), (), ((),))
        self.assertEqual(outcomes(case, manual_of(), 0), ((QUIT,),))
        self.assertIsNone(manuals_alike(case, manual_of(), manual_of(QUIT, DONE)))
        self.assertEqual(manuals_alike(case, manual_of(DONE), manual_of(QUIT)), (0, 0, (DONE,), ()))

    def test_1000_outcomes_and_1001(self):
        case = lamp_case(0)
        found = outcomes(case, lamps(*THOUSAND), 0)
        self.assertEqual((len(found), list(found)), (1000, sorted(set(found))))
        self.assertEqual(error_of(outcomes, case, lamps(*ONE_MORE), 0), ("TooMany", "outcome"))
        self.assertEqual(error_of(outcomes, case, lamps(*TWO * 50), 0), ("TooMany", "outcome"))
        self.assertIsNone(manuals_alike(case, lamps(*THOUSAND), lamps(*THOUSAND)))
        # Only the world that is asked counts; to compare manuals is to ask all.
        two = Case(case.plan, case.kinds, (0, 1), (), ((0, 0), (1, 0)))
        self.assertEqual(len(outcomes(two, lamps(*ONE_MORE), 0)), 1)
        self.assertEqual(error_of(outcomes, two, lamps(*ONE_MORE), 1), ("TooMany", "outcome"))
        for first, second in ((ONE_MORE, (DONE,)), ((DONE,), ONE_MORE)):
            self.assertEqual(error_of(manuals_alike, two, lamps(*first), lamps(*second)), ("TooMany", "outcome"))

    def test_as_told_for_many(self):
        several = 0
        for case, manual in (*many_works(341, 300), *many_rich_works(300, 300), *many_wire_works(301, 200)):
            judge = Judge(case, manual)
            for world in range(len(case)):
                self.assertEqual(outcomes(case, manual, world), judge.outcomes(world))
                several += len(judge.outcomes(world)) > 1
        self.assertGreater(several, 30)


class ManualsAlikeTest(unittest.TestCase):
    def test_alike(self):
        case = wire_case((), ZERO, TURN)
        self.assertIsNone(manuals_alike(case, manual_of(*MEND), manual_of(*MEND)))
        self.assertIsNone(manuals_alike(case, manual_of(*MEND), manual_of(LOOK, ("if", (1,), (DONE,), (SWAP, DONE)))))
        # How they find it out does not count.
        self.assertIsNone(manuals_alike(case, manual_of(*MEND), manual_of(("look", "two", "in"), *MEND)))
        # Of the part that comes and goes, too, the first look tells.
        self.assertIsNone(manuals_alike(case, manual_of(*MEND), manual_of(LOOK,
                                                                          ("if", (0,), (("repeat", 1, (SWAP,)),), ()),
                                                                          DONE)))

    def test_the_first_difference(self):
        case = wire_case((), ZERO, TURN)
        never = manual_of(DONE)
        swapped = (("swap", "g", 2), DONE)
        self.assertEqual(manuals_alike(case, manual_of(*MEND), never), (1, 1, (DONE,), ()))
        self.assertEqual(manuals_alike(case.with_worlds((0, 2)), manual_of(*MEND), never), (1, 0, swapped, (0,)))
        self.assertEqual(manuals_alike(case.with_worlds((0, 2)), never, manual_of(*MEND)), (1, 1, swapped, (0,)))
        self.assertEqual(manuals_alike(case, manual_of(QUIT), manual_of(DONE)), (0, 1, (DONE,), ()))
        # The least outcome is told, not the least row: a back comes ahead of a swap.
        lamp = lamp_case(1)
        first = lamps(BLINKED, ("if", (0,), (("say", "s"), DONE), (QUIT,)))
        self.assertEqual(manuals_alike(lamp, first, lamps()), (0, 0, (("say", "s", 1), DONE), (0,)))
        self.assertEqual(manuals_alike(lamp, first, lamps(DONE)), (0, 1, (DONE,), ()))

    def test_the_least_row_of_signs(self):
        case = lamp_case(0)
        long = (BLINKED, BLINKED, ("if", (1,), (SAY_S,), ()), DONE)
        self.assertEqual(manuals_alike(case, lamps(DONE), lamps(*long)), (0, 1, (("say", "s", 1), DONE), (0, 1)))
        # The fewest signs go ahead of the least ones.
        short = (BLINKED, ("if", (0,), long, (SAY_S, DONE)))
        self.assertEqual(manuals_alike(case, lamps(DONE), lamps(*short)), (0, 1, (("say", "s", 1), DONE), (1,)))
        many = lamps(("repeat", 4, (BLINKED,) * 15), ("if", (1,), (SAY_S,), ()), DONE)
        self.assertEqual(manuals_alike(case, lamps(DONE), many), (0, 1, (("say", "s", 1), DONE), (*[0] * 59, 1)))

    def test_errors_of_the_first_manual_and_then_of_the_second(self):
        case = lamp_case()
        wide = Manual((("now", ((0,),)),), (("main", ()),))
        odd = lamps(("say", "odd"))
        long = wide_manual(12)
        many = lamps(*ONE_MORE)
        wrong = {("BadTest", "now"): wide, ("Unknown", "odd"): odd, ("TooMany", "standing"): long,
                 ("TooMany", "outcome"): many}
        for error, first in wrong.items():
            for second in wrong.values():
                self.assertEqual(error_of(manuals_alike, case, first, second), error)
            self.assertEqual(error_of(manuals_alike, case, lamps(), first), error)
        both = lamps(*wide_manual(12)["main"], *ONE_MORE[2:5])
        self.assertEqual(error_of(outcomes, case, both, 0), ("TooMany", "standing"))

    def test_as_told_for_many(self):
        chance = random.Random(343)
        told = {}
        for case, manual in (*many_works(344, 300), *many_rich_works(300, 300), *many_wire_works(301, 200)):
            other = any_manual(chance, case.plan, 2)
            if chance.random() < 0.5:
                name, body = manual.chapters[0]
                some = list(body)
                some.insert(chance.randrange(len(some) + 1), chance.choice((QUIT, DONE, ("repeat", 2, ()))))
                other = Manual(manual.tests, ((name, some), *manual.chapters[1:]))
            if len([step for step in Judge(case, other).flow if step[0] == "look"]) > 8:
                continue
            wanted = plain_alike(case, manual, other)
            self.assertEqual(manuals_alike(case, manual, other), wanted)
            back = manuals_alike(case, other, manual)
            self.assertEqual(back, wanted and (wanted[0], 1 - wanted[1], *wanted[2:]))
            told[wanted and len(wanted[3])] = told.get(wanted and len(wanted[3]), 0) + 1
        self.assertGreater(min(told[key] for key in (None, 0, 1, 2)), 5)

    def test_stuck(self):
        case = wire_case(STUCK)
        self.assertEqual(manuals_alike(case, manual_of(("swap", "c"), DONE), manual_of(("swap", "c"), ("swap", "c"), DONE)),
                         (0, 0, (("swap", "c", 3), DONE), ()))
