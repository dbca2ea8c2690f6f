import random
import unittest

from tests.repairs import BOOK, any_manual, manual_of
from tests.samples import EMPTY, EXAMPLE, STILL, TURNED
from tinkerhall.manread import read_manual
from tinkerhall.manuals import Manual
from tinkerhall.manwrite import write_manual

DONE, LEAVE = ("done",), ("leave",)

# The example of the document.
LINES = """test one 01 11
test two 00
chapter main
look one g
if 0 2
swap g
look two c
if 1
done
end
back g
else
say c
end
end""".split("\n")
EXAMPLE_MANUAL = Manual((("one", ((0, 1), (1, 1))), ("two", ((0, 0),))), (("main", (
    ("look", "one", "g"),
    ("if", (0, 2), (("swap", "g"), ("look", "two", "c"), ("if", (1,), (DONE,), ()), ("back", "g")), (("say", "c"),)))),))


def body_lines(*body, **chapters):
    """The lines of the body of the first chapter."""
    lines = write_manual(manual_of(*body, tests=(), **chapters))
    return lines[1:lines.index("chapter sub") - 1] if chapters else lines[1:-1]


class WriteManualTest(unittest.TestCase):
    def test_the_example(self):
        self.assertEqual(write_manual(EXAMPLE_MANUAL), tuple(LINES))

    def test_all_words(self):
        lines = write_manual(Manual((("one", ((), ())), ("two", ((2,),))), (
            ("main", (("repeat", 3, (("call", "sub"), LEAVE)), ("say", "g"), ("swap", "g"), ("back", "g"), DONE,
                      ("quit",))),
            ("sub", ()))))
        self.assertEqual(lines, ("test one - -", "test two 2", "chapter main", "repeat 3", "call sub", "leave", "end",
                                 "say g",
                                 "swap g", "back g", "done", "quit", "end", "chapter sub", "end"))

    def test_bodies_of_if(self):
        self.assertEqual(body_lines(("if", (0, 1, 2), (), ())), ("if 0 1 2", "end"))
        self.assertEqual(body_lines(("if", (0,), (DONE,), ())), ("if 0", "done", "end"))
        self.assertEqual(body_lines(("if", (0,), (), (DONE,))), ("if 0", "else", "done", "end"))
        self.assertEqual(body_lines(("if", (0,), (("if", (1,), (), (DONE,)),), (("repeat", 2, ()), DONE))),
                         ("if 0", "if 1", "else", "done", "end", "else", "repeat 2", "end", "done", "end"))
        self.assertEqual(body_lines(), ())
        self.assertEqual(body_lines(("call", "sub"), DONE, sub=(DONE,)), ("call sub", "done"))

    def test_as_many_bodies_as_may_be(self):
        body = DONE
        for _ in range(149):
            body = ("repeat", 1, (body,))
        lines = write_manual(manual_of(body, tests=()))
        self.assertEqual(lines, ("chapter main", *["repeat 1"] * 149, "done", *["end"] * 150))
        self.assertEqual(read_manual(lines), manual_of(body, tests=()))

    def test_read_back(self):
        chance = random.Random(201)
        for _ in range(500):
            manual = any_manual(chance, chance.choice((EXAMPLE, TURNED, STILL, EMPTY)), chance.choice((0, 1, 2, 3)))
            lines = write_manual(manual)
            self.assertIsInstance(lines, tuple)
            self.assertEqual(read_manual(lines), manual)
            self.assertEqual(read_manual(list(lines)), manual)
            self.assertEqual(write_manual(read_manual(lines)), lines)

    def test_one_text_for_each_manual(self):
        chance = random.Random(202)
        manuals = [any_manual(chance, EXAMPLE, 1) for _ in range(150)]
        manuals += [Manual(manual.tests, manual.chapters) for manual in manuals[:20]]
        texts = [write_manual(manual) for manual in manuals]
        same = 0
        for at, manual in enumerate(manuals):
            for other in range(at):
                self.assertEqual(texts[at] == texts[other], manual == manuals[other])
                same += texts[at] == texts[other]
        self.assertGreaterEqual(same, 20)

    def test_small_differences(self):
        one = ("look", "one", "g")
        pairs = ((manual_of(DONE, DONE), manual_of(DONE)), (manual_of(("if", (0,), (), (DONE,))),
                                                            manual_of(("if", (0,), (DONE,), ()))),
                 (manual_of(("if", (0,), (DONE,), ()), DONE), manual_of(("if", (0,), (DONE,), (DONE,)))),
                 (manual_of(("repeat", 1, (DONE,)), DONE), manual_of(("repeat", 1, (DONE, DONE)))),
                 (manual_of(("repeat", 1, (DONE,))), manual_of(("repeat", 2, (DONE,)))),
                 (manual_of(one), manual_of(("look", "two", "g"))), (manual_of(one, sub=()), manual_of(one, bus=())),
                 (manual_of(("if", (0, 1), (), ())), manual_of(("if", (0,), (), ()))),
                 (BOOK, BOOK + Manual((), (("sub", ()),))),
                 (Manual((("one", ((0,),)),), (("main", ()),)), Manual((("one", ((0,), (0,))),), (("main", ()),))),
                 (Manual((("one", ((0, 0),)),), (("main", ()),)), Manual((("one", ((0,), (0,))),), (("main", ()),))))
        for first, second in pairs:
            self.assertNotEqual(first, second)
            self.assertNotEqual(write_manual(first), write_manual(second))
