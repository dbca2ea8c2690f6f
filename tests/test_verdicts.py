import random
import unittest

from tests.judged import Judge, plain_is_right
from tests.raising import error_of
from tests.repairs import (BLINKED, BOOK, DROP, FLASH, MEND, STUCK, WIRE, WIRED, ZERO, as_lists, lamp_case, manual_of,
                           many_rich_works, many_wire_works, many_works, the_case, wide_manual, wire_case)
from tests.samples import EMPTY
from tinkerhall.cases import Case
from tinkerhall.judging import standings_of
from tinkerhall.manuals import Manual
from tinkerhall.verdicts import Verdict, judge_table

DONE = ("done",)


def breach(manual, *worlds, limit=100, strict=True):
    return Verdict(wire_case(*worlds), manual, limit, strict=strict).breach


class VerdictTest(unittest.TestCase):
    def test_let_in(self):
        case = wire_case(ZERO)
        verdict = Verdict(case, manual_of(*MEND), 6)
        self.assertIs(bool(verdict), True)
        self.assertIsNone(verdict.breach)
        start, swapped = ((0, 1), (2, 3, 4), ()), ((2, 1), (3, 4), (("g", 0),))
        table = ((0, start, -1, (0,), 6), (1, start, 0, (0,), 3), (2, start, 0, (0,), 3), (3, swapped, 0, (0,), 0))
        self.assertEqual((verdict.table, len(verdict), tuple(verdict)), (table, 4, table))
        verdict = Verdict(case, manual_of(*MEND), 5)
        self.assertIs(bool(verdict), False)
        self.assertEqual((verdict.breach, verdict.table, len(verdict), list(verdict)), (("late", 0, (0,)), None, 0, []))

    def test_each_word(self):
        self.assertEqual(breach(manual_of(("swap", "c"), ("swap", "c")), STUCK, strict=False), ("lack", 0, ()))
        self.assertEqual(breach(manual_of(("swap", "g"))), ("cleared", 0, ()))
        self.assertIsNone(breach(manual_of(("swap", "g")), (), ZERO, strict=False))
        self.assertEqual(breach(manual_of(("say", "g"))), ("untrue", 0, ()))
        self.assertEqual(breach(manual_of(("say", "g"), DONE), ZERO), ("bad", 0, ()))
        self.assertEqual(breach(manual_of(("say", "g")), ZERO), ("quit", 0, ()))
        self.assertIsNone(breach(manual_of(("say", "g")), ZERO, strict=False))
        self.assertEqual(breach(manual_of(("look", "one", "g")), limit=2, strict=False), ("late", 0, (1,)))
        self.assertIsNone(breach(manual_of(("look", "one", "g")), limit=3, strict=False))

    def test_words_at_one_step_in_their_order(self):
        # The swap is of a cleared part, lacks a part in the second case, and is late in both.
        self.assertEqual(breach(manual_of(("swap", "g")), limit=0), ("cleared", 0, ()))
        bare = Case(WIRE, WIRED[:2], (0, 1), (), ((0, 0),))
        self.assertEqual(Verdict(bare, manual_of(("swap", "g")), 0).breach, ("lack", 0, ()))
        self.assertEqual(Verdict(bare, manual_of(("say", "g"), ("swap", "g")), 0).breach, ("untrue", 0, ()))
        self.assertEqual(breach(manual_of(("swap", "g")), ZERO, limit=2), ("late", 0, ()))
        # Late at the look ahead of it, which has read its sign.
        self.assertEqual(breach(manual_of(("look", "one", "g"), ("say", "g")), limit=2), ("late", 0, (1,)))
        self.assertEqual(breach(manual_of(("look", "one", "g"), ("say", "g")), limit=3), ("untrue", 0, (1,)))

    def test_cleared_hangs_on_the_signs(self):
        # The wire gives 0 in the one world, is whole in the other; the look tells which.
        look = ("look", "one", "g")
        self.assertEqual(breach(manual_of(look, ("swap", "g")), (), ZERO, strict=False), ("cleared", 0, (1,)))
        self.assertIsNone(breach(manual_of(("swap", "g"), look), (), ZERO, strict=False))
        self.assertIsNone(breach(manual_of(look, ("if", (0,), (("swap", "g"),), ())), (), ZERO, strict=False))
        # The second swap takes out the pass 2, which is whole in all worlds.
        self.assertEqual(breach(manual_of(("swap", "g"), ("swap", "g")), ZERO, strict=False), ("cleared", 0, ()))
        # A stand-in is never cleared.
        case = wire_case(placed=(4, 1), shelf=(0, 2, 3))
        self.assertIsNone(Verdict(case, manual_of(("swap", "g")), 9, strict=False).breach)
        self.assertEqual(Verdict(case, manual_of(("swap", "g"), ("swap", "g")), 9, strict=False).breach, ("cleared", 0, ()))
        # Nothing is wrong with putting back what is cleared.
        self.assertIsNone(breach(manual_of(("swap", "g"), ("back", "g")), ZERO, strict=False))

    def test_a_stand_in_that_does_not_act_as_whole(self):
        case = wire_case(placed=(4, 1), shelf=(0, 2, 3))
        self.assertEqual(Verdict(case, manual_of(DONE), 9).breach, ("bad", 0, ()))
        self.assertIsNone(Verdict(case, manual_of(("swap", "g"), DONE), 9).breach)
        self.assertEqual(Verdict(case, manual_of(("swap", "g"), ("back", "g"), DONE), 9).breach, ("bad", 0, ()))

    def test_done_where_what_is_broken_does_not_show(self):
        # The cell that is put in is stuck at its start; the one that drops shows it now and then.
        self.assertEqual(breach(manual_of(DONE), STUCK), ("bad", 0, ()))
        self.assertEqual(breach(manual_of(DONE), DROP), ("bad", 0, ()))
        case = Case(WIRE.changed(exits=("g",)), WIRED, (0, 1), (2, 3, 4), ((0, 1, 0, 0, 0), (0, 2, 0, 0, 0)))
        self.assertIsNone(Verdict(case, manual_of(DONE), 0).breach)

    def test_the_first_world_the_fewest_signs_the_least_row(self):
        case = lamp_case(1)
        said = Manual(FLASH, (("main", (BLINKED, BLINKED, ("if", (1,), (("say", "s"),), ()), BLINKED, ("say", "s"))),))
        self.assertEqual(Verdict(case, said, 99).breach, ("untrue", 0, (0, 1)))
        late = Manual(FLASH, (("main", (BLINKED, ("if", (0,), (BLINKED, BLINKED), (("swap", "s"), BLINKED)))),))
        self.assertEqual(Verdict(case, late, 1, strict=False).breach, ("late", 0, (0,)))
        self.assertEqual(Verdict(case, late, 5, strict=False).breach, ("cleared", 0, (1,)))
        broken = Case(case.plan, case.kinds, (0, 1), (2,), ((1, 1, 0), (0, 1, 0), (1, 0, 0)))
        self.assertEqual(broken.worlds, ((0, 1, 0), (1, 0, 0), (1, 1, 0)))
        # In the first world the part 0 never blinks; in the second one the part 1 is whole, but not all worlds left say so.
        self.assertEqual(Verdict(broken, late, 5, strict=False).breach, ("late", 0, (0, 0, 0)))
        self.assertEqual(Verdict(broken, late, 6, strict=False).breach, ("late", 1, (1,)))
        self.assertEqual(Verdict(broken, late, 12, strict=False).breach, ("late", 1, (1, 0)))
        self.assertEqual(Verdict(broken, late, 13, strict=False).breach, None)
        self.assertEqual(Verdict(broken, late, 13, strict=True).breach, ("quit", 0, (0, 0, 0)))

    def test_a_limit_of_0_and_of_10000(self):
        case = wire_case()
        self.assertIsNone(Verdict(case, manual_of(DONE), 0).breach)
        self.assertEqual(Verdict(case, manual_of(("look", "one", "g"), DONE), 0).breach, ("late", 0, (1,)))
        self.assertIsNone(Verdict(case, manual_of(("look", "one", "g"), DONE), 10000).breach)
        empty = Case(EMPTY, (), (), (), ((),))
        self.assertEqual(Verdict(empty, manual_of(DONE, tests=()), 0).table, ((0, ((), (), ()), -1, (0,), 0),))

    def test_bad_limits(self):
        for limit in (-1, 10001, True, False, None, "5", (5,), 10 ** 39):
            self.assertEqual(error_of(Verdict, the_case(), BOOK, limit), ("BadLimit", limit))
            self.assertEqual(error_of(Verdict, lamp_case(), wide_manual(12), limit), ("BadLimit", limit))
        self.assertEqual(error_of(Verdict, the_case(), manual_of(("say", "odd")), None), ("Unknown", "odd"))

    def test_many_runs(self):
        # 2 to the 60 runs.
        manual = Manual(FLASH, (("main", (("repeat", 4, (BLINKED,) * 15), DONE)),))
        case = lamp_case(0)
        verdict = Verdict(case, manual, 120)
        self.assertEqual((verdict.breach, verdict.table[0][4], len(verdict)), (None, 120, 1 + 2 * 60))
        self.assertEqual(Verdict(case, manual, 119).breach, ("late", 0, (0,) * 60))
        late = Manual(FLASH, (("main", (("repeat", 4, (BLINKED,) * 15), ("if", (1,), (("say", "s"),), ()), DONE)),))
        self.assertEqual(Verdict(case, late, 120).breach, ("untrue", 0, (*[0] * 59, 1)))

    def test_as_told_for_many(self):
        told = {}
        for case, manual in (*many_works(311, 300), *many_rich_works(300, 300), *many_wire_works(301, 200)):
            judge = Judge(case, manual)
            most = max(bill[1] for bill in judge.bills())
            for limit in sorted({0, 1, most // 2, max(0, most - 1), most, most + 1}):
                for strict in (True, False):
                    verdict = Verdict(case, manual, limit, strict=strict)
                    self.assertEqual(verdict.breach, judge.breach(limit, strict))
                    if verdict:
                        self.assertEqual(verdict.table, tuple((*standing, judge.more(standing))
                                                              for standing in judge.standings()))
                        self.assertIsNone(judge_table(case, manual, limit, verdict.table, strict=strict))
                    self.assertEqual((tuple(verdict), len(verdict)), (verdict.table or (), len(verdict.table or ())))
                    word = None if verdict else verdict.breach[0]
                    told[word] = told.get(word, 0) + 1
        self.assertEqual(len(told), 7)
        self.assertGreater(min(told.values()), 20)


def changed(chance, table, reached):
    """A table that is bent somewhere, or only told otherwise."""
    rows = list(table)
    at = chance.randrange(len(rows))
    step, arrangement, sign, left, more = rows[at]
    word = chance.choice(("order", "doubled", "out", "more", "left", "sign", "step", "other", "behind", "empty"))
    if word == "order":
        chance.shuffle(rows)
    elif word == "doubled":
        rows.insert(chance.randrange(len(rows) + 1), (*rows[at][:4], more + chance.choice((0, 0, 1))))
    elif word == "out":
        rows.pop(at)
    elif word == "more":
        rows[at] = (*rows[at][:4], max(0, more + chance.choice((-1, 1))))
    elif word == "left":
        rows[at] = (step, arrangement, sign, left[1:] or (0,), more)
    elif word == "sign":
        rows[at] = (step, arrangement, chance.choice((-1, 0, 1)), left, more)
    elif word == "step":
        rows[at] = (chance.randrange(step + 1), arrangement, sign, left, more)
    elif word == "other":
        rows.insert(at, (*chance.choice(reached), chance.randrange(9)))
    elif word == "behind":
        rows.append((step, arrangement, sign, left, more + 1))
    else:
        rows.insert(chance.randrange(len(rows) + 1), (step, arrangement, sign, (), 0))
    return tuple(rows)


class JudgeTableTest(unittest.TestCase):
    def setUp(self):
        self.case = wire_case(ZERO, ((0, 1), (3, 1)))
        self.manual = manual_of(*MEND)
        self.table = Verdict(self.case, self.manual, 6).table

    def judged(self, table, limit=6, **told):
        return judge_table(self.case, self.manual, limit, table, **told)

    def test_right_tables(self):
        self.assertIsNone(self.judged(self.table))
        self.assertIsNone(self.judged(as_lists(self.table)))
        self.assertIsNone(self.judged([list(row) for row in self.table]))
        self.assertIsNone(self.judged(self.table[::-1]))
        self.assertIsNone(self.judged(self.table * 2, 10 ** 39))
        self.assertEqual(self.judged(self.table, 5), -1)
        self.assertEqual(self.judged(self.table, -1), -1)

    def test_the_beginning(self):
        for table in ((), [], None, "table", 7, {}, self.table[1:], (None,), ((*self.table[0][:4], 7), *self.table[1:]),
                      ((*self.table[0][:4], True), *self.table[1:]), (self.table[0][:4], *self.table[1:])):
            self.assertEqual(self.judged(table), -1, table)
        # One of the rows is the beginning in time; the first one tells what others hang on.
        self.assertEqual(self.judged((*self.table, (*self.table[0][:4], 7))), 4)
        self.assertEqual(self.judged(((*self.table[0][:4], 7), *self.table)), 0)

    def test_rows_that_are_wrong(self):
        first, second, third, last = self.table
        self.assertEqual(self.judged((first, second, third)), 2)
        self.assertEqual(self.judged((first, third, last)), 0)
        self.assertEqual(self.judged((first, second, (*third[:4], 4), last)), 1)
        self.assertEqual(self.judged((first, (*second[:4], 4), (*third[:4], 4), last)), 0)
        self.assertEqual(self.judged((first, second, third, (*last[:4], 1))), 2)
        self.assertEqual(self.judged((first, second, third, last, (*last[:4], 1))), 4)
        self.assertEqual(self.judged((first, second, third, last, (3, *third[1:4], 0))), 4)
        self.assertEqual(self.judged((first, second, third, last, (4, *last[1:4], 0))), 4)
        self.assertIsNone(self.judged((first, second, third, last, (4, *last[1:4], 0)), strict=False))
        self.assertEqual(self.judged((first, second, third, last, (4, *last[1:3], (), 0)), strict=False), 4)
        # Standings that are not reached are right by themselves if what is behind them is there.
        low = (3, last[1], -1, (1,), 0)
        self.assertIsNone(self.judged((*self.table, low)))
        self.assertEqual(self.judged((*self.table, (2, first[1], -1, (1,), 3))), 4)
        self.assertIsNone(self.judged((*self.table, (2, first[1], -1, (1,), 3), low)))

    def test_a_cleared_part_and_a_lacking_one(self):
        manual = manual_of(("swap", "g"), ("swap", "c"))
        case = wire_case(ZERO, STUCK)
        start = case.arrangement
        behind = case.swapped("g")
        both = case.swapped("c", behind)
        table = ((0, start, -1, (0, 1), 8), (1, behind, -1, (0, 1), 5), (2, both, -1, (0, 1), 0))
        self.assertIsNone(judge_table(case, manual, 8, table, strict=False))
        self.assertEqual(judge_table(case, manual, 8, table), 2)
        # The cell is whole in the second world; it is cleared there alone.
        rows = ((0, start, -1, (1,), 8), (1, behind, -1, (1,), 5), (2, both, -1, (1,), 0))
        self.assertEqual(judge_table(case, manual, 8, (*table, *rows), strict=False), 4)
        lack = (1, both, -1, (0,), 0)
        self.assertEqual(judge_table(case, manual, 8, (*table, lack), strict=False), 3)

    def test_rows_that_have_not_their_form(self):
        first = self.table[0]
        placed, shelf, bench = first[1]
        swapped = self.table[3][1]
        bad = [None, 7, "row", (), first[:4], (*first, 0), {}, (-1, *first[1:]), (5, *first[1:]), (False, *first[1:]),
               ("0", *first[1:]), (None, *first[1:])]
        bad += [(0, told, *first[2:]) for told in (
            None, (), (placed, shelf), (placed, shelf, bench, ()), (placed, shelf, None), (None, shelf, bench),
            (placed, None, bench),
            (shelf[:2], placed, bench), ((0, 1, 2), (3, 4), ()), ((0,), (1, 2, 3, 4), ()), ((1, 0), shelf, bench),
            ((0, 0), shelf, bench),
            (placed, (2, 3), bench), (placed, (2, 3, 3), bench), (placed, (2, 3, 4, 5), bench),
            (placed, (2, 3, True), bench),
            ((False, 1), shelf, bench), ((0, True), shelf, bench), (placed, ("2", 3, 4), bench),
            (placed, (2, 3), (("g", 3),)),
            (placed, (3, 4), (("c", 2),)), (placed, (3, 4), (("g",),)), (placed, (3, 4), (("g", 2, 2),)),
            (placed, (3, 4), (("in", 2),)), (placed, (3, 4), (("odd", 2),)), (placed, (3, 4), ((None, 2),)),
            (placed, (3, 4), ((["g"], 2),)), (placed, (3, 4), (2,)), (placed, (3, 4), (("g", "2"),)),
            (placed, shelf, (("g", 2),)),
            ((4, 2), (0, 1, 3), ()), "012", (placed, "234", bench))]
        bad += [(*first[:2], sign, *first[3:]) for sign in (-2, 2, True, None, "0", (0,))]
        bad += [(*first[:3], left, first[4]) for left in (None, 0, (1, 0), (0, 0), (0, 2), (-1, 0), (0, True),
                                                          (False, 1), ("0",), "01",
                                                          ((0,),))]
        bad += [(*first[:4], more) for more in (-1, None, "6", True, False, (6,), 6.0)]
        for row in bad:
            self.assertEqual(self.judged((*self.table, row)), 4, row)
            self.assertEqual(self.judged((row, *self.table)), 0, row)
            self.assertEqual(self.judged((self.table[0], row, *self.table[1:])), 1, row)
            # It tells no standing that another row could hang on.
            self.assertEqual(self.judged((row, *self.table[1:])), -1, row)
        # At a quit that is let in, all other rows are right by themselves.
        end = (4, *first[1:4], 0)
        self.assertIsNone(self.judged((*self.table, end), strict=False))
        for row in bad:
            if isinstance(row, tuple) and len(row) == 5:
                other = tuple(told if repr(told) != repr(kept) else new for told, kept, new in zip(row, first, end))
                self.assertEqual(self.judged((*self.table, other), strict=False), 4, other)
        # These have their forms, wherever the parts are.
        for told in (swapped, (placed, (4, 3, 2), ()), (placed, (), (("g", 4), ("c", 3), ("g", 2))),
                     ((4, 3), (1, 0), (("g", 2),))):
            self.assertIsNone(self.judged((*self.table, (4, told, 1, (0,), 0)), strict=False))

    def test_arrangements_with_one_bench_and_other_parts_in_the_places(self):
        case = wire_case(ZERO, ((0, 1), (3, 1)))
        turned = ((4, 1), (0, 2, 3), ())
        manual = manual_of(("look", "one", "g"), DONE)
        rows = ((0, turned, -1, (0, 1), 3), (1, turned, 0, (0, 1), 0))
        start = ((0, case.arrangement, -1, (0, 1), 3), (1, case.arrangement, 0, (0, 1), 0))
        # Both read 0, but done is bad.
        self.assertEqual(judge_table(case, manual, 3, (*start, *rows)), 1)
        exits = WIRE.changed(exits=("in",))
        other = Case(exits, WIRED, (0, 1), (2, 3, 4), case.worlds)
        self.assertIsNone(judge_table(other, manual, 3, (*start, *rows)))
        passed = ((2, 1), (0, 3, 4), ())
        self.assertEqual(judge_table(other, manual, 3, (*start, (0, passed, -1, (0, 1), 3), (1, passed, 0, (0, 1), 0))), 2)
        self.assertIsNone(judge_table(other, manual, 3, (*start, (0, passed, -1, (0, 1), 3), (1, passed, 1, (0, 1), 0))))
        wired = manual_of(DONE)
        told = ((0, case.arrangement, -1, (0, 1), 0), (0, passed, -1, (0, 1), 0))
        self.assertEqual([judge_table(case, wired, 0, rows) for rows in (told, told[::-1])], [0, 1])

    def test_true_and_false_in_rows(self):
        table = tuple((step, arrangement, sign, left, 0) for step, arrangement, sign,
                      left in standings_of(self.case, manual_of()))
        manual = manual_of()
        self.assertIsNone(judge_table(self.case, manual, 0, table, strict=False))
        self.assertEqual(judge_table(self.case, manual, 0, ((False, *table[0][1:]),), strict=False), -1)
        self.assertEqual(judge_table(self.case, manual, 0, ((*table[0][:4], False),), strict=False), -1)
        self.assertEqual(judge_table(self.case, manual, 0, (*table, (*table[0][:3], (False, True), 0)), strict=False), 1)

    def test_nothing_that_was_passed_is_changed(self):
        table = as_lists(self.table)
        self.judged(table)
        self.assertEqual(table, as_lists(self.table))

    def test_changed_tables(self):
        chance = random.Random(313)
        told = {}
        for case, manual in (*many_works(314, 400), *many_rich_works(300, 300), *many_wire_works(301, 200)):
            judge = Judge(case, manual)
            table = tuple((*standing, judge.more(standing)) for standing in judge.standings())
            reached = judge.standings()
            for _ in range(4):
                strict = chance.random() < 0.3
                limit = table[0][4] + chance.choice((-1, 0, 0, 0, 1))
                other = changed(chance, table, reached)
                wanted = plain_is_right(judge, limit, other, strict)
                self.assertEqual(judge_table(case, manual, limit, other, strict=strict), wanted)
                self.assertEqual(judge_table(case, manual, limit, as_lists(other), strict=strict), wanted)
                if wanted is None:
                    # Whoever wrote it: if the table is right, the manual is let in.
                    self.assertTrue(Verdict(case, manual, limit, strict=strict))
                told[wanted] = told.get(wanted, 0) + 1
        self.assertGreater(told[None], 100)
        self.assertGreater(told[-1], 100)
        self.assertGreater(sum(told[at] for at in told if at not in (None, -1)), 500)
