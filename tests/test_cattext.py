import random
import unittest

from tests.raising import error_of
from tests.samples import CATALOGUE, any_catalogue
from tinkerhall.cattext import read_catalogue, write_catalogue
from tinkerhall.kinds import Catalogue, Kind

LINES = ("signs 3", "kind one 0 600", "table 2", "kind cell 1 5", "keeps 2", "table 012012012",
         "stands low 000000000", "flees high 222222222", "kind none 0 0", "keeps 0", "table 000")
GOOD = Catalogue(3, (
    Kind(3, "one", 0, (2,), price=600),
    Kind(3, "cell", 1, (0, 1, 2) * 3, start=2, price=5, ways=(("stands", "low", (0,) * 9), ("flees", "high", (2,) * 9))),
    Kind(3, "none", 0, (0, 0, 0), start=0)))


def with_line(at, *lines):
    return (*LINES[:at], *lines, *LINES[at + 1:])


class CatalogueTextTest(unittest.TestCase):
    def assert_bad(self, lines, line, word):
        self.assertEqual(error_of(read_catalogue, lines), ("BadLine", line, word), lines)

    def test_written_and_read(self):
        self.assertEqual(write_catalogue(GOOD), LINES)
        self.assertEqual(read_catalogue(list(LINES)), GOOD)
        self.assertEqual(write_catalogue(Catalogue(2)), ("signs 2",))
        self.assertEqual(read_catalogue(("signs 2",)), Catalogue(2))
        for catalogue in [CATALOGUE, *[any_catalogue(random.Random(seed), 2 + seed // 10) for seed in range(20)]]:
            self.assertEqual(read_catalogue(write_catalogue(catalogue)), catalogue)

    def test_the_first_line(self):
        self.assert_bad((), 0, 0)
        for line in ("", "kind a 0 0", " signs 2", "Signs 2", "signs2", "  ", None, 2, ("signs", "2"), b"signs 2"):
            self.assert_bad((line, *LINES[1:]), 0, 0)
        for line in ("signs", "signs 1", "signs 4", "signs 02", "signs +2", "signs  2", "signs two", "signs 2.", "signs "):
            self.assert_bad((line, "never"), 0, 1)
        for line in ("signs 2 ", "signs 2 2", "signs 2  2"):
            self.assert_bad((line, "never"), 0, 2)

    def test_words_of_a_kind(self):
        for words, word in (("kind", 1), ("kind ", 1), ("kind A 9 9", 1), ("kind table 9 9", 1), ("kind abcdefghi 0 0", 1),
                            ("kind a", 2), ("kind a 3 601", 2), ("kind a -1 0", 2), ("kind a 00 0", 2), ("kind a x 0", 2),
                            ("kind a  0", 2), ("kind a 0", 3), ("kind a 0 601", 3), ("kind a 0 00", 3), ("kind a 0 05", 3),
                            ("kind a 0 6a", 3), ("kind a 0 +6", 3), ("kind a 0 -5", 3), ("kind a 0 1_0", 3), ("kind a 0 6.", 3),
                            ("kind a 0 " + "9" * 2000, 3), ("kind a 0 ", 3), ("kind a 0 0 0", 4), ("kind a 0 0 ", 4)):
            self.assert_bad(with_line(3, words), 3, word)

    def test_words_of_the_other_lines(self):
        for words, word in (("keeps", 1), ("keeps 3", 1), ("keeps 00", 1), ("keeps 1 1", 2), ("keeps 1 ", 2)):
            self.assert_bad(with_line(4, words), 4, word)
        for words, word in (("table", 1), ("table ", 1), ("table 3", 1), ("table 0a", 1), ("table " + "0" * 28, 1),
                            ("table 0 1", 2), ("table 0 ", 2)):
            self.assert_bad(with_line(5, words), 5, word)
        for words, word in (("stands", 1), ("stands Low 0", 1), ("flees kind 0", 1), ("stands low", 2), ("stands low 3", 2),
                            ("flees low  0", 2), ("stands low " + "0" * 28, 2), ("stands low 0 0", 3), ("flees low 0 ", 3)):
            self.assert_bad(with_line(6, words), 6, word)

    def test_lines_that_cannot_come(self):
        for line in ("", "table 0", "keeps 0", "signs 3", "entry a", "way", None, 5):
            self.assert_bad((*LINES, line), len(LINES), 0)
        for line in ("stands low 000", "kind a 0 0", "", "flees", "signs 3"):
            self.assert_bad(with_line(5, line), 5, 0)
            self.assert_bad(with_line(4, line), 4, 0)
        self.assert_bad(with_line(4, "keeps 2", "keeps 2"), 5, 0)
        # Behind the ways of a kind only a kind can come.
        self.assert_bad(with_line(7, "flees high 222222222", "keeps 1"), 8, 0)
        self.assert_bad(("signs 2", "table 0"), 1, 0)
        self.assert_bad(("signs 2", "stands low 0"), 1, 0)

    def test_lines_that_end_too_early(self):
        self.assert_bad(LINES[:2], 2, 0)
        self.assert_bad(LINES[:4], 4, 0)
        self.assert_bad(LINES[:5], 5, 0)
        for many in (1, 3, 6, 7, 8, 11):
            self.assertIsNone(error_of(read_catalogue, LINES[:many]))

    def test_all_lines_go_ahead_of_the_objects(self):
        bad_kind = ("signs 2", "kind a 1 0", "table 0")
        self.assertEqual(error_of(read_catalogue, bad_kind), ("BadKind", "a"))
        self.assert_bad((*bad_kind, "kind b 0 0", "table 0", "never"), 5, 0)
        nine = [line for name in "abcdefghi" for line in (f"kind {name} 0 0", "table 0")]
        self.assertEqual(error_of(read_catalogue, ("signs 2", *nine)), ("TooMany", "kind"))
        self.assertEqual(error_of(read_catalogue, ("signs 2", *nine, "kind j 0 0", "table 2")), ("BadKind", "j"))
        self.assertEqual(error_of(read_catalogue, ("signs 2", "kind a 0 0", "keeps 2", "table 00")), ("BadKind", "a"))
        ways = [f"stands {name} 1" for name in "abcdefg"]
        self.assertEqual(error_of(read_catalogue, ("signs 2", "kind a 0 0", "table 0", *ways)), ("BadKind", "a"))
        self.assertEqual(error_of(read_catalogue, ("signs 2", *nine[:4], *nine[:4])), ("Twice", "a"))
        self.assertEqual(error_of(read_catalogue, ("signs 2", *nine[:4], *nine[2:4], "kind z 0 0", "table 00")),
                         ("BadKind", "z"))
