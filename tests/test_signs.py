import unittest

from tinkerhall.signs import WORDS, is_name, is_row, write_steps

TOLD = """signs kind keeps table stands flees entry place from exit plan most come day build swap move back shelve
scrap give take seen row sights told strike again test chapter look say if else end repeat leave call done quit any
house customer"""


class NamesTest(unittest.TestCase):
    def test_the_words(self):
        self.assertEqual(WORDS, tuple(TOLD.split()))

    def test_names(self):
        for name in ("a", "z", "gate", "abcdefgh", "kinds", "sign"):
            self.assertIs(is_name(name), True, name)

    def test_what_is_no_name(self):
        for thing in ("", "abcdefghi", "Gate", "a1", "a b", " a", "a_", "\u00e9", None, 5, True, ("a",), ["a"], b"a", {}):
            self.assertIs(is_name(thing), False, thing)
        for word in WORDS:
            self.assertIs(is_name(word), False, word)


class RowsTest(unittest.TestCase):
    def test_rows(self):
        self.assertIs(is_row(((0, 1), (1, 1)), 2, 2), True)
        self.assertIs(is_row([[2], (0,)], 3, 1), True)
        self.assertIs(is_row(((),), 2, 0), True)
        self.assertIs(is_row(((0,),) * 60, 2, 1), True)
        self.assertIs(is_row([()] * 3, 2, 0, 3), True)
        self.assertIs(is_row([()] * 3, 2, 0, most=3), True)

    def test_what_is_no_row(self):
        for thing in ((), [], ((2,),), ((0, 1),), ((),), ((0,), (0, 0)), (0,), "0", ("0",), (("0",),), ((True,),),
                      ((0,), [False]), ((-1,),), None, 7, {0: (0,)}, (None,), ((0.0,),), ((0,),) * 61):
            self.assertIs(is_row(thing, 2, 1), False, thing)
        self.assertIs(is_row([()] * 4, 2, 0, 3), False)
        self.assertIs(is_row(("",), 2, 0), False)

    def test_write_steps(self):
        self.assertEqual(write_steps(((0, 1), (1, 1), (2, 0))), "01 11 20")
        self.assertEqual(write_steps([[0], [1]]), "0 1")
        self.assertEqual(write_steps(((), (), ())), "- - -")
        self.assertEqual(write_steps(((1,),) * 61), " ".join(["1"] * 61))
        self.assertEqual(write_steps(()), "")
