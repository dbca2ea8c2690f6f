import random
import re
import unittest

from tests.raising import error_of
from tests.repairs import any_manual
from tests.samples import EXAMPLE, TURNED
from tests.test_manwrite import EXAMPLE_MANUAL, LINES
from tinkerhall.manread import read_manual
from tinkerhall.manuals import Manual
from tinkerhall.manwrite import write_manual
from tinkerhall.signs import WORDS

STEP, SIGN, TIMES = r"-|[012]{1,2}", "[012]", "[1234]"
# For each word the patterns of the words behind it; those with a number can stand so often.
PATTERNS = {"test": ("name", (STEP, 8)), "chapter": ("name",), "look": ("name", "name"), "swap": ("name",),
            "back": ("name",),
            "say": ("name",), "call": ("name",), "if": ((SIGN, 3),), "repeat": ((TIMES, 1),), "leave": (), "done": (),
            "quit": (), "else": (), "end": ()}
STATEMENTS = ("look", "swap", "back", "say", "if", "repeat", "leave", "call", "done", "quit")


def is_good(word, pattern):
    if pattern == "name":
        return re.fullmatch("[a-z]{1,8}", word) is not None and word not in WORDS
    return re.fullmatch(pattern, word) is not None


def bad_word(words):
    """The first bad word of a line behind the first one, or None."""
    at = 1
    for pattern in PATTERNS[words[0]]:
        pattern, most = (pattern, 1) if pattern == "name" else pattern
        for number in range(most):
            if number > 0 and at == len(words):
                break
            if at == len(words) or not is_good(words[at], pattern):
                return at
            at += 1
    return at if at < len(words) else None


def first_bad(lines):
    """The first word that cannot stand where it stands, as the document tells it; None if all can."""
    stack = []
    chapters = False
    for number, line in enumerate(lines):
        words = line.split(" ")
        if not stack:
            can = ("chapter",) if chapters else ("test", "chapter")
        elif stack[-1] == "if":
            can = (*STATEMENTS, "else", "end")
        else:
            can = STATEMENTS if stack[-1] == "else" and lines[number - 1] == "else" else (*STATEMENTS, "end")
        if words[0] not in can:
            return number, 0
        if bad_word(words) is not None:
            return number, bad_word(words)
        if words[0] in ("chapter", "if", "repeat"):
            stack.append(words[0])
            chapters = True
        elif words[0] == "else":
            stack[-1] = "else"
        elif words[0] == "end":
            stack.pop()
    return (len(lines), 0) if stack else None


def error_in(*lines):
    """What is told of these lines in a chapter."""
    error = error_of(read_manual, ("test one 0", "chapter main", *lines, "end"))
    return error if error is None or error[0] != "BadLine" else (error[1] - 2, error[2])


class ReadManualTest(unittest.TestCase):
    def test_the_example(self):
        for lines in (LINES, tuple(LINES)):
            self.assertEqual(read_manual(lines), EXAMPLE_MANUAL)

    def test_no_line_at_all(self):
        self.assertEqual(error_of(read_manual, ()), ("BadManual", "chapters"))
        self.assertEqual(error_of(read_manual, []), ("BadManual", "chapters"))
        self.assertEqual(error_of(read_manual, ("test one 0", "test one 0")), ("BadManual", "chapters"))

    def test_what_is_read(self):
        lines = ("test one - -", "test two 2", "chapter main", "repeat 4", "leave", "if 0 1 2", "end", "end",
                 "call sub", "end",
                 "chapter sub", "if 1", "else", "quit", "end", "end")
        self.assertEqual(read_manual(lines), Manual((("one", ((), ())), ("two", ((2,),))), (
            ("main", (("repeat", 4, (("leave",), ("if", (0, 1, 2), (), ()))), ("call", "sub"))),
            ("sub", (("if", (1,), (), (("quit",),)),)))))

    def test_tests(self):
        for line, word in (("test", 1), ("test One 0", 1), ("test end 0", 1), ("test  one 0", 1), ("test one", 2),
                           ("test one 3", 2),
                           ("test one 012", 2), ("test one --", 2), ("test one 0-", 2), ("test one  0", 2),
                           ("test one 0 ", 3),
                           ("test one 0 0x", 3), ("test one 0 0 0 0 0 0 0 0 0", 10), ("test one - - - - - - - - x", 10),
                           ("test ninechars 0", 1), (" test one 0", 0), ("tests one 0", 0), ("", 0), (" ", 0),
                           ("Test one 0", 0),
                           ("end", 0), ("look one g", 0), ("else", 0)):
            self.assertEqual(error_of(read_manual, ("test two 0", line, "odd")), ("BadLine", 1, word), line)

    def test_chapters(self):
        for line, word in (("chapter", 1), ("chapter main main", 2), ("chapter Main", 1), ("chapter chapter", 1),
                           ("chapter main ", 2), ("chapter  main", 1), ("chapter 7", 1), ("chapters", 0)):
            self.assertEqual(error_of(read_manual, (line, "end")), ("BadLine", 0, word), line)
        # Tests behind chapters, and whatever else.
        for line in ("test one 0", "done", "end", "else", "", "odd", None):
            self.assertEqual(error_of(read_manual, ("chapter main", "end", line)), ("BadLine", 2, 0), line)

    def test_statements(self):
        for line, word in (("look", 1), ("look one", 2), ("look one g g", 3), ("look 1 g", 1), ("look one G", 2),
                           ("look one 1", 2),
                           ("look look g", 1), ("swap", 1), ("swap g 0", 2), ("swap from", 1), ("back", 1),
                           ("back g g", 2), ("say", 1),
                           ("say g ", 2), ("call", 1), ("call main sub", 2), ("call 0", 1), ("leave 1", 1), ("leave ", 1),
                           ("done main", 1), ("quit 0", 1), ("if", 1), ("if 3", 1), ("if 01", 1), ("if x", 1),
                           ("if 0 1 2 0", 4),
                           ("if 0 1 2 x", 4), ("if 0  1", 2), ("if -1", 1), ("if +1", 1), ("if 0 3", 2), ("if 0,1", 1),
                           ("repeat", 1),
                           ("repeat 0", 1), ("repeat 5", 1), ("repeat 01", 1), ("repeat +1", 1), ("repeat 1.0", 1),
                           ("repeat 2 3", 2), ("repeat x", 1), ("repeat 44", 1), ("repeat " + "4" * 50, 1),
                           ("chapter sub", 0), ("test two 0", 0), ("else", 0),
                           ("", 0), (" done", 0), ("Done", 0), ("odd", 0), ("done;", 0)):
            self.assertEqual(error_in("done", line, "odd"), (1, word), line)
        for thing in (None, 7, True, ("done",), ["done"], {}, b"done"):
            self.assertEqual(error_in("done", thing), (1, 0))

    def test_ends(self):
        self.assertEqual(error_in("end 0"), (0, 1))
        self.assertEqual(error_in("if 0", "end ", "end"), (1, 1))
        self.assertEqual(error_in("if 0", "else 1", "done", "end"), (1, 1))
        self.assertEqual(error_in("if 0", "else", "end"), (2, 0))
        self.assertEqual(error_in("if 0", "done", "else", "end", "done"), (3, 0))
        self.assertEqual(error_in("if 0", "done", "else", "done", "else", "done", "end"), (4, 0))
        self.assertEqual(error_in("if 0", "else", "else"), (2, 0))
        self.assertEqual(error_in("repeat 2", "else", "done", "end"), (1, 0))
        self.assertEqual(error_in("if 0", "repeat 2", "else", "end", "end"), (2, 0))
        self.assertIsNone(error_in("if 0", "else", "if 1", "end", "end"))
        # The last `end` of these is that of the if, or of the repeat.
        for lines in (("if 0",), ("if 0", "else", "done"), ("repeat 1",), ("if 0", "if 0", "end")):
            self.assertEqual(error_in(*lines), (len(lines) + 1, 0))
        self.assertEqual(error_of(read_manual, ("chapter main",)), ("BadLine", 1, 0))
        self.assertEqual(error_of(read_manual, ["chapter main", "if 0", "else"]), ("BadLine", 3, 0))

    def test_bad_lines_go_ahead_of_errors_of_the_manual(self):
        wrong = ("test one 0 01", "test one 0", "chapter main", "call odd", "look odd g", "leave", "end",
                 "chapter main", "end")
        self.assertEqual(error_of(read_manual, wrong), ("BadManual", "tests"))
        self.assertEqual(error_of(read_manual, (*wrong, "end")), ("BadLine", 9, 0))
        self.assertEqual(error_of(read_manual, wrong[1:]), ("Twice", "main"))
        self.assertEqual(error_of(read_manual, (*wrong[1:-1], "end x")), ("BadLine", 7, 1))
        self.assertEqual(error_of(read_manual, wrong[1:-2]), ("Unknown", "odd"))
        self.assertEqual(error_of(read_manual, wrong[1:-3]), ("BadLine", 5, 0))

    def test_what_the_manual_judges(self):
        self.assertEqual(error_in("if 2 0", "end"), ("BadStatement", "main"))
        self.assertEqual(error_in("if 0 0", "end"), ("BadStatement", "main"))
        self.assertEqual(error_in("leave"), ("Stray", "main"))
        self.assertEqual(error_in("call main"), ("Ring", "main"))
        self.assertEqual(error_in("look two g"), ("Unknown", "two"))
        tests = [f"test {'abcdefghi'[at]} 0" for at in range(9)]
        self.assertEqual(error_of(read_manual, (*tests, "chapter main", "end")), ("BadManual", "tests"))
        self.assertIsNone(error_of(read_manual, (*tests[:8], "chapter main", "end")))
        chapters = [line for at in range(7) for line in (f"chapter {'abcdefg'[at]}", "end")]
        self.assertEqual(error_of(read_manual, chapters), ("BadManual", "chapters"))
        self.assertIsNone(error_of(read_manual, chapters[:12]))
        self.assertEqual(error_of(read_manual, (tests[0], tests[0], "chapter main", "end")), ("Twice", "a"))
        self.assertEqual(error_in(*["done"] * 201), ("TooLong", 201))
        self.assertIsNone(error_in(*["done"] * 200))
        self.assertEqual(error_in("repeat 4", *["done"] * 74, "end"), ("TooHeavy", 301))

    def test_150_bodies_and_151(self):
        self.assertIsNone(error_in(*["repeat 1"] * 149, "done", *["end"] * 149))
        self.assertEqual(error_in(*["repeat 1"] * 150, "done", *["end"] * 150), ("BadStatement", "main"))
        self.assertIsNone(error_in(*["if 1", "else"] * 149, "done", *["end"] * 149))
        self.assertEqual(error_in(*["if 1", "else"] * 150, "done", *["end"] * 150), ("BadStatement", "main"))
        self.assertEqual(error_in(*["repeat 1"] * 348, *["end"] * 348), ("BadStatement", "main"))

    def test_mutated_texts(self):
        chance = random.Random(203)
        words = ["done", "end", "else", "if", "0", "1", "2", "3", "4", "5", "-", "01", "", "repeat", "look", "one", "g",
                 "test",
                 "chapter", "leave", "call", "x", "Ab", "00 1", "from", "end end"]
        told = {}
        for _ in range(4000):
            lines = list(write_manual(any_manual(chance, chance.choice((EXAMPLE, TURNED)), chance.choice((1, 2)))))
            for _ in range(chance.choice((1, 1, 2))):
                at = chance.randrange(len(lines))
                split = lines[at].split(" ")
                change = chance.randrange(5)
                if change == 0:
                    lines.pop(at)
                elif change == 1:
                    lines.insert(at, chance.choice((*words, *lines)))
                else:
                    spot = chance.randrange(len(split) + 1)
                    split[spot:spot + chance.choice((0, 1, 1))] = [chance.choice(words)] * chance.choice((0, 1, 1, 1))
                    lines[at] = " ".join(split)
                if not lines:
                    lines = ["end"]
            error = error_of(read_manual, lines)
            wanted = first_bad(lines)
            if wanted is None:
                self.assertTrue(error is None or error[0] != "BadLine", (lines, error))
                told[None] = told.get(None, 0) + 1
            else:
                self.assertEqual(error, ("BadLine", *wanted), lines)
                told[min(3, wanted[1])] = told.get(min(3, wanted[1]), 0) + 1
        self.assertGreater(min(told.values()), 50)
        self.assertEqual(len(told), 5)
