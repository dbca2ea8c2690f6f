import inspect
import random
import unittest

from tests.raising import error_of
from tests.repairs import BOOK, MAIN, TESTS, any_manual, manual_of, the_case
from tests.samples import EMPTY, EXAMPLE, STILL, TURNED
from tinkerhall.manuals import Manual
from tinkerhall.runs import follow

DONE = ("done",)


def body_error(*body, tests=TESTS, **chapters):
    return error_of(Manual, tests, (("main", body), *chapters.items()))


def nested(many, inner):
    """A statement that stands in so many bodies."""
    body = inner
    for _ in range(many - 1):
        body = ("repeat", 1, (body,))
    return body


class ManualTest(unittest.TestCase):
    def test_attributes(self):
        manual = Manual([["one", [[0], [1]]]], [["main", [["if", [0, 2], [["done"]], []], ["look", "one", "g"]]],
                                                ["sub", []]])
        self.assertEqual(manual.tests, (("one", ((0,), (1,))),))
        self.assertEqual(manual.chapters, (("main", (("if", (0, 2), (DONE,), ()), ("look", "one", "g"))), ("sub", ())))
        self.assertEqual((len(manual), list(manual)), (2, ["main", "sub"]))
        self.assertEqual((manual["main"], manual["sub"]), (manual.chapters[0][1], ()))
        self.assertTrue("main" in manual and "sub" in manual)
        for name in ("one", "odd", None, 0, ["main"]):
            self.assertIs(name in manual, False)
            self.assertEqual(error_of(lambda: manual[name]), ("Unknown", name))
        self.assertEqual(manual.test_row("one"), ((0,), (1,)))
        for name in ("main", "odd", None, ["one"]):
            self.assertEqual(error_of(manual.test_row, name), ("Unknown", name))

    def test_equal_and_sum(self):
        self.assertEqual(BOOK, Manual(list(TESTS), [["main", list(MAIN)]]))
        self.assertNotEqual(BOOK, Manual(TESTS[::-1], (("main", MAIN),)))
        self.assertNotEqual(BOOK, Manual(TESTS, (("other", MAIN),)))
        self.assertFalse(BOOK == BOOK.chapters)
        other = Manual((("three", ((1,),)),), (("more", (("look", "three", "g"),)), ("main", ())))
        more = Manual((("three", ((1,),)),), (("more", (("look", "three", "g"),)),))
        self.assertEqual(BOOK + more, Manual((*TESTS, *more.tests), (*BOOK.chapters, *more.chapters)))
        self.assertEqual(error_of(lambda: BOOK + other), ("Twice", "main"))
        self.assertEqual(error_of(lambda: BOOK + BOOK), ("Twice", "one"))
        large = manual_of(*[DONE] * 150)
        self.assertEqual(error_of(lambda: large + Manual((), (("next", (DONE,) * 51),))), ("TooLong", 201))

    def test_lists_that_are_changed_behind_it(self):
        row, signs, inner, body = [[0], [1]], [0, 2], [["done"]], []
        body.extend([["look", "one", "g"], ["if", signs, inner, []], ["repeat", 2, [["say", "c"]]]])
        tests, chapters = [["one", row]], [["main", body], ["sub", []]]
        manual = Manual(tests, chapters)
        row.append([0])
        row[0][0] = 1
        signs[0] = 1
        inner.append(["quit"])
        body[0][1] = "odd"
        body.pop()
        chapters.pop()
        tests.clear()
        self.assertEqual(manual.tests, (("one", ((0,), (1,))),))
        self.assertEqual(manual.chapters, (("main", (("look", "one", "g"), ("if", (0, 2), (DONE,), ()),
                                                     ("repeat", 2, (("say", "c"),)))), ("sub", ())))
        self.assertEqual((manual.weight, manual.test_row("one"), manual["main"]), (8, ((0,), (1,)), manual.chapters[0][1]))
        self.assertEqual([statement[0] for statement in manual.statements()], ["look", "if", "done", "repeat", "say"])
        self.assertEqual(Manual([], [["main", []]]), Manual((), (("main", ()),)))

    def test_all_of_a_joined_manual(self):
        more = Manual((("three", ((1,),)),), (("more", (("look", "three", "g"), ("say", "c"))), ("low", (DONE,))))
        first, second = (BOOK.tests, BOOK.chapters), (more.tests, more.chapters)
        both = BOOK + more
        self.assertIsInstance(both, Manual)
        self.assertEqual((both.tests, both.chapters), ((*BOOK.tests, *more.tests), (*BOOK.chapters, *more.chapters)))
        self.assertEqual((len(both), list(both), both.weight), (3, ["main", "more", "low"], BOOK.weight))
        self.assertEqual([name in both for name in ("main", "more", "low", "three")], [True, True, True, False])
        self.assertEqual((both["more"], both["main"], both.test_row("three")), (more["more"], BOOK["main"], ((1,),)))
        self.assertEqual(list(both.statements()), [*BOOK.statements(), *more.statements()])
        self.assertEqual(both(the_case(), (1,)), follow(the_case(), BOOK, (1,)))
        self.assertEqual(error_of(both.fits, TURNED), ("BadTest", "one"))
        # The manuals that are joined stay, and the order counts.
        self.assertEqual(((BOOK.tests, BOOK.chapters), (more.tests, more.chapters)), (first, second))
        self.assertNotEqual(both, more + BOOK)
        self.assertEqual((more + BOOK).weight, more.weight)
        self.assertEqual((both + Manual((), (("endx", ()),))).chapters[3:], (("endx", ()),))

    def test_errors_of_joined_manuals(self):
        def joined(first, second):
            return error_of(lambda: first + second)

        def plain(tests, *chapters):
            return Manual(tests, chapters)

        tests = tuple(("t" + letter, ((0,),)) for letter in "abcdefgh")
        chapters = tuple(("c" + letter, ()) for letter in "abcdef")
        self.assertEqual(joined(plain(tests, *chapters), plain((("odd", ((0,),)),), ("more", ()))), ("BadManual", "tests"))
        self.assertEqual(joined(plain(tests[:4], *chapters), plain(tests[:4], ("more", ()))), ("BadManual", "chapters"))
        self.assertIsNone(joined(plain(tests[:4], *chapters[:3]), plain(tests[4:], *chapters[3:])))
        self.assertEqual(joined(plain(tests[:2], ("main", ())), plain(tests[1:3], ("main", ()))), ("Twice", "tb"))
        self.assertEqual(joined(plain(tests[:2], ("main", (DONE,) * 200)), plain(tests[2:], ("main", (DONE,)))),
                         ("Twice", "main"))
        self.assertEqual(joined(plain((), ("main", (DONE,) * 200)), plain((), ("sub", (DONE,)))), ("TooLong", 201))
        self.assertIsNone(joined(plain((), ("main", (DONE,) * 199)), plain((), ("sub", (DONE,)))))

    def test_statements(self):
        self.assertTrue(inspect.isgeneratorfunction(Manual.statements))
        manual = manual_of(*MAIN, sub=(("repeat", 2, (("leave",), ("say", "g"))),))
        self.assertEqual([statement[0] for statement in manual.statements()],
                         ["look", "if", "swap", "look", "if", "done", "back", "say", "repeat", "leave", "say"])
        self.assertEqual(list(manual.statements())[1], MAIN[1])
        self.assertEqual(list(manual_of().statements()), [])

    def test_weight(self):
        self.assertEqual(manual_of().weight, 0)
        self.assertEqual(BOOK.weight, 8)
        self.assertEqual(manual_of(("repeat", 3, (DONE, DONE))).weight, 1 + 3 * 3)
        self.assertEqual(manual_of(("repeat", 4, ())).weight, 5)
        self.assertEqual(manual_of(("call", "sub"), ("call", "sub"), sub=(DONE,) * 5).weight, 12)
        self.assertEqual(manual_of(DONE, sub=(("call", "low"),) * 3, low=(DONE,) * 5).weight, 1)
        self.assertEqual(manual_of(("repeat", 2, (("repeat", 3, (("if", (0,), (DONE,), (DONE,)),)),)), ("call", "sub"),
                                   sub=(("repeat", 2, (("leave",),)),)).weight, 1 + 2 * (1 + 1 + 3 * (1 + 3)) + 1 + 5)

    def test_too_heavy(self):
        ten = (DONE,) * 9
        self.assertEqual(manual_of(*[("call", "sub")] * 29, *[DONE] * 9, sub=ten).weight, 299)
        self.assertEqual(body_error(*[("call", "sub")] * 30, sub=ten), ("TooHeavy", 300))
        self.assertEqual(body_error(*[("repeat", 4, (("repeat", 4, (("repeat", 4, (("repeat", 4, ()),)),)),))]),
                         ("TooHeavy", 1 + 4 * (1 + 1 + 4 * (1 + 1 + 4 * (1 + 1 + 4)))))
        # Chapters that are not reached from the first one weigh nothing.
        self.assertIsNone(body_error(DONE, sub=(("call", "low"),) * 40, low=ten))
        self.assertEqual(body_error(nested(150, DONE)), None)
        self.assertEqual(body_error(("repeat", 4, (("call", "b"),)), b=(("call", "c"),) * 30, c=(("call", "d"),) * 30,
                                    d=(("call", "e"),) * 30, e=(DONE,) * 30), ("TooHeavy", 1 + 4 * (2 + 30 * (
                                        1 + 30 * (1 + 30 * 31)))))

    def test_called_like_follow(self):
        case = the_case()
        self.assertEqual(BOOK(case, (1,)), follow(case, BOOK, (1,)))
        self.assertEqual(error_of(BOOK, case, (2,)), ("BadSign", 0))

    def test_random_manuals_are_kept_as_passed(self):
        chance = random.Random(111)
        for _ in range(50):
            manual = any_manual(chance, EXAMPLE, 3)
            self.assertEqual(Manual(manual.tests, manual.chapters), manual)
            self.assertIsNone(manual.fits(EXAMPLE))


class BadManualTest(unittest.TestCase):
    def test_tests(self):
        test = ("one", ((0,),))
        many = tuple(("t" + letter, ((0,),)) for letter in "abcdefghi")
        for tests in (None, "ab", 7, (None,), ("one",), (("one",),), (("one", ((0,),), 1),), (("One", ((0,),)),),
                      (("test", ((0,),)),), (("one", ()),), (("one", None),), (("one", "0"),), (("one", ((3,),)),),
                      (("one", ((True,),)),), (("one", ((0,), (0, 1))),), (("one", ((0, 1, 2),)),), (("one", ((0,),) * 9),),
                      (test, ("two", ((-1,),))), many, (test, test, None), {}):
            self.assertEqual(error_of(Manual, tests, None), ("BadManual", "tests"), tests)
        for tests in ((), many[:8], (("one", ((),) * 8), ("two", ((0, 2),)), ("three", ((2,),)))):
            self.assertIsNone(error_of(Manual, tests, (("main", ()),)))

    def test_chapters(self):
        seven = tuple(("c" + letter, ()) for letter in "abcdefg")
        for chapters in (None, (), "ab", (None,), ("main",), (("main",),), (("main", (), ()),), (("Main", ()),),
                         (("end", ()),), (("main", None),), (("main", "ab"),), seven, {}, ((7, ()),),
                         (("main", ()), ("sub", None)), (("main", ()), None)):
            self.assertEqual(error_of(Manual, (TESTS[0], TESTS[0]), chapters), ("BadManual", "chapters"), chapters)
        self.assertIsNone(error_of(Manual, (), seven[:6]))

    def test_twice(self):
        again = (("main", (None,)), ("sub", ()), ("sub", ()), ("main", ()))
        self.assertEqual(error_of(Manual, (*TESTS, TESTS[1], TESTS[0]), again), ("Twice", "two"))
        self.assertEqual(error_of(Manual, TESTS, again), ("Twice", "sub"))
        self.assertIsNone(error_of(Manual, TESTS, (("one", ()), ("two", ()))))

    def test_bad_statements(self):
        bad = (None, 7, "done", (), ("odd",), (None,), (["done"],), ("done", 1), ("quit", ()), ("leave", 0),
               ("look", "one"),
               ("look", "one", "g", "g"), ("look", "one", 0), ("look", "test", "g"), ("look", None, "g"), ("swap",),
               ("swap", "g", 1), ("swap", 2), ("back", "from"), ("say", "G"), ("say", ""), ("if", (0,), ()),
               ("if", (), (), ()), ("if", (1, 0), (), ()), ("if", (0, 0), (), ()), ("if", (3,), (), ()),
               ("if", (1, 3), (), ()), ("if", (-1, 0), (), ()), ("if", (0, None), (), ()), ("if", (-1,), (), ()),
               ("if", (True,), (), ()), ("if", 0, (), ()), ("if", "0", (), ()), ("if", (0,), None, ()),
               ("if", (0,), (), "ab"), ("if", (0,), (), (), ()), ("if", (0, 1, 2, 2), (), ()), ("if", (0,), {}, ()),
               ("repeat", 0, ()), ("repeat", 5, ()), ("repeat", True, ()), ("repeat", "2", ()), ("repeat", 2),
               ("repeat", 2, 7),
               ("repeat", ()), ("call",), ("call", "chapter"), ("call", 0), ("call", "sub", 1), {}, ("if", ([0],), (), ()))
        for statement in bad:
            for inner in (statement, ("if", (0,), (), (DONE, statement)), ("repeat", 2, (("if", (0,), (statement,), ()),))):
                self.assertEqual(body_error(DONE, inner, sub=(None,)), ("BadStatement", "main"), statement)
        self.assertEqual(body_error(DONE, sub=(DONE, ("if", (0,), (), (None,))), low=(None,)), ("BadStatement", "sub"))
        self.assertIsNone(body_error(["if", [0, 1, 2], [], []], ["repeat", 4, [["leave"]]]))

    def test_more_than_150_bodies(self):
        self.assertIsNone(body_error(nested(150, DONE)))
        self.assertEqual(body_error(nested(151, DONE)), ("BadStatement", "main"))
        self.assertEqual(body_error(DONE, sub=(DONE, nested(151, DONE))), ("BadStatement", "sub"))
        # A body that is empty has no statement that stands in it.
        self.assertIsNone(body_error(nested(150, ("if", (0,), (), ()))))
        self.assertEqual(body_error(nested(3000, DONE)), ("BadStatement", "main"))

    def test_too_long(self):
        self.assertIsNone(body_error(*[DONE] * 150, sub=(("if", (0,), (DONE,) * 24, (DONE,) * 25),)))
        self.assertEqual(body_error(*[DONE] * 150, sub=(("if", (0,), (DONE,) * 25, (DONE,) * 25),)), ("TooLong", 201))
        self.assertEqual(body_error(*[("call", "odd")] * 300), ("TooLong", 300))

    def test_unknown(self):
        self.assertEqual(body_error(("repeat", 2, (("look", "odd", "g"),)), ("call", "odder")), ("Unknown", "odd"))
        self.assertEqual(body_error(("if", (0,), (("call", "odder"),), (("look", "odd", "g"),))), ("Unknown", "odder"))
        self.assertEqual(body_error(("call", "one")), ("Unknown", "one"))
        self.assertEqual(body_error(("look", "main", "g")), ("Unknown", "main"))
        self.assertEqual(body_error(("leave",), sub=(("call", "main"), ("call", "odd"))), ("Unknown", "odd"))
        # Whether a line or a place is there hangs on the plan.
        self.assertIsNone(body_error(("look", "one", "odd"), ("swap", "odd"), ("say", "odd")))

    def test_stray(self):
        self.assertEqual(body_error(("call", "main"), sub=(("leave",),)), ("Stray", "sub"))
        self.assertEqual(body_error(("repeat", 2, (("leave",),)), ("if", (0,), (), (("if", (1,), (("leave",),), ()),))),
                         ("Stray", "main"))
        self.assertIsNone(body_error(("repeat", 2, (("if", (0,), (("leave",),), (("leave",),)), ("leave",), ("leave",)))))
        # The repeat around a call is none of the chapter that is called.
        self.assertEqual(body_error(("repeat", 2, (("call", "sub"),)), sub=(("leave",),)), ("Stray", "sub"))

    def test_ring(self):
        self.assertEqual(body_error(("call", "main")), ("Ring", "main"))
        self.assertEqual(body_error(DONE, sub=(("call", "sub"),)), ("Ring", "sub"))
        self.assertEqual(body_error(("call", "sub"), sub=(("call", "low"),), low=(("if", (0,), (), (("call", "sub"),)),)),
                         ("Ring", "sub"))
        self.assertEqual(body_error(("call", "sub"), sub=(("call", "low"),), low=(("repeat", 2, (("call", "main"),)),)),
                         ("Ring", "main"))
        self.assertIsNone(body_error(("call", "low"), ("call", "sub"), sub=(("call", "low"),) * 2, low=(DONE,)))
        self.assertEqual(body_error(("call", "sub"), *[("repeat", 4, (DONE,) * 30)] * 3, sub=(("call", "main"),)),
                         ("Ring", "main"))


class FitsTest(unittest.TestCase):
    def test_fits(self):
        self.assertIsNone(BOOK.fits(EXAMPLE))
        self.assertIsNone(manual_of().fits(EXAMPLE))
        self.assertIsNone(Manual((("one", ((), ())),), (("main", (("look", "one", "s"),)),)).fits(STILL))
        # A test that is never used counts, too.
        self.assertEqual(error_of(manual_of().fits, TURNED), ("BadTest", "one"))
        wide = Manual((("one", ((1,),)), ("two", ((2,),)), ("three", ((0, 0),))), (("main", (("swap", "odd"),)),))
        self.assertEqual(error_of(wide.fits, EXAMPLE), ("BadTest", "two"))
        self.assertEqual(error_of(manual_of(("say", "in"), ("swap", "odd")).fits, EXAMPLE), ("Unknown", "in"))
        self.assertEqual(error_of(manual_of(("look", "one", "in"), ("back", "odd"), ("look", "one", "odder")).fits,
                                  EXAMPLE),
                         ("Unknown", "odd"))
        self.assertEqual(error_of(manual_of(DONE, sub=(("look", "two", "odder"),)).fits, EXAMPLE), ("Unknown", "odder"))
        self.assertEqual(error_of(manual_of(("swap", "g")).fits, EMPTY), ("Unknown", "g"))
        self.assertIsNone(manual_of(("look", "one", "in")).fits(EMPTY))
