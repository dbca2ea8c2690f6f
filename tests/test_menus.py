import unittest

from tests.played import MENU, TESTS
from tests.raising import error_of
from tests.repairs import LAMPS, WIRE, as_lists
from tests.samples import EMPTY, STILL, TURNED
from tinkerhall.menus import Menu

LOOKS = (("one", "g"), ("two", "c"))


class MenuTest(unittest.TestCase):
    def test_attributes(self):
        menu = Menu(WIRE, as_lists(TESTS), as_lists(LOOKS))
        self.assertIs(menu.plan, WIRE)
        self.assertEqual((menu.tests, menu.looks), (TESTS, LOOKS))
        self.assertEqual((len(menu), list(menu)), (2, list(LOOKS)))
        self.assertEqual([menu.test_row(name) for name, _ in TESTS], [row for _, row in TESTS])
        for name in ("g", "three", "", None, 0, ["one"]):
            self.assertEqual(error_of(menu.test_row, name), ("Unknown", name))

    def test_lists_that_are_changed_behind_it(self):
        tests, looks = as_lists(TESTS), as_lists(LOOKS)
        menu = Menu(WIRE, tests, looks)
        tests[0][1][0][0] = 0
        looks[0][0] = "two"
        looks.pop()
        self.assertEqual((menu, len(menu)), (MENU, 2))

    def test_no_test_and_no_look(self):
        for menu in (Menu(WIRE, (), ()), Menu(WIRE, [], []), Menu(WIRE, TESTS, ())):
            self.assertEqual((len(menu), list(menu), menu.looks), (0, [], ()))
        self.assertEqual(len(Menu(EMPTY, (("one", ((1,),)),), (("one", "in"),))), 1)
        self.assertEqual(len(Menu(STILL, (("one", ((), ())),), (("one", "s"),))), 1)

    def test_equal(self):
        self.assertEqual(Menu(WIRE, TESTS, LOOKS), MENU)
        self.assertEqual(Menu(WIRE.changed(), list(TESTS), list(LOOKS)), MENU)
        self.assertNotEqual(Menu(WIRE, TESTS, LOOKS[::-1]), MENU)
        self.assertNotEqual(Menu(WIRE, TESTS[:2], LOOKS), MENU)
        self.assertNotEqual(Menu(WIRE.changed(exits=("g",)), TESTS, LOOKS), MENU)
        self.assertFalse(MENU == LOOKS)

    def test_bad_tests(self):
        test = ("one", ((0,),))
        nine = tuple(("t" + letter, ((0,),)) for letter in "abcdefghi")
        for tests in (None, "ab", 7, (None,), ("one",), (("one",),), (("one", ((0,),), 1),), (("One", ((0,),)),),
                      (("test", ((0,),)),),
                      (("one", ()),), (("one", None),), (("one", ((3,),)),), (("one", ((True,),)),),
                      (("one", ((0,), (0, 1))),),
                      (("one", ((0,),) * 9),), (("one", ((0, 0, 0),)),), nine, (test, test),
                      (test, ("two", ((1,),)), ["one", [[1]]]), {}):
            self.assertEqual(error_of(Menu, WIRE, tests, None), ("BadMenu", "tests"), tests)
        self.assertIsNone(error_of(Menu, WIRE, nine[:8], ()))
        self.assertIsNone(error_of(Menu, WIRE, (("one", ((0,),) * 8),), ()))

    def test_bad_looks(self):
        wide = (*TESTS, ("wide", ((0, 0),)))
        seven = tuple((name, line) for name in ("one", "two", "odd") for line in WIRE.lines)[:7]
        for looks in (None, 7, "ab", {}, (None,), ("one",), (("one",),), (("one", "g", 1),), (("three", "g"),),
                      (("one", "x"),),
                      (("g", "one"),), (("one", "pass"),), ((0, "g"),), (("one", 1),), (("one", True),), ((["one"], "g"),),
                      (("one", ["g"]),), (("one", "g"), ("one", "g")), (("one", "g"), ["one", "g"]),
                      (("one", "g"), None), seven,
                      (*LOOKS, ("one", "odd"))):
            self.assertEqual(error_of(Menu, WIRE, wide, looks), ("BadMenu", "looks"), looks)
        self.assertIsNone(error_of(Menu, WIRE, TESTS, seven[:6]))

    def test_rows_that_are_none_for_the_plan(self):
        tests = (("one", ((0,),)), ("two", ((2,),)), ("three", ((0, 0),)))
        self.assertEqual(error_of(Menu, WIRE, tests, LOOKS[:1]), ("BadTest", "two"))
        self.assertEqual(error_of(Menu, WIRE, tests[::2], ()), ("BadTest", "three"))
        self.assertEqual(error_of(Menu, WIRE, tests, (("one", "x"),)), ("BadMenu", "looks"))
        self.assertEqual(error_of(Menu, TURNED, tests[:1], ()), ("BadTest", "one"))
        self.assertEqual(error_of(Menu, LAMPS, (("one", ((0,),)),), ()), ("BadTest", "one"))
