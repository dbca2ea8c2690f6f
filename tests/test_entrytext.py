import unittest

from tests.houses import many_houses
from tests.raising import error_of
from tinkerhall.entrytext import read_entry, write_entry

# An entry of each word, with its line.
TOLD = (
    (("come", "gate", "one"), "come gate one"),
    (("day",), "day"),
    (("build", "m", "loop", (0, 10, 9)), "build m loop 0 10 9"),
    (("build", "m", "bare", ()), "build m bare"),
    (("build", "m", "wide", (1, 2, 3, 4, 5, 6)), "build m wide 1 2 3 4 5 6"),
    (("swap", "m", "g", 99), "swap m g 99"),
    (("back", "m", "g"), "back m g"),
    (("move", "m", "g", "n", "h"), "move m g n h"),
    (("shelve", 7), "shelve 7"),
    (("scrap", 0), "scrap 0"),
    (("give", "m"), "give m"),
    (("take", "m"), "take m"),
    (("seen", 12, "m", ((0, 1), (2, 0)), ((1, "g", 2),)), "seen 12 m row 01 20 sights 1 g 2"),
    (("seen", 0, "m", ((), ()), ((0, "g", 0), (1, "h", 1))), "seen 0 m row - - sights 0 g 0 1 h 1"),
    (("seen", 0, "m", ((1,),) * 8, tuple((at, "g", 1) for at in range(6))),
     "seen 0 m row 1 1 1 1 1 1 1 1 sights 0 g 1 1 g 1 2 g 1 3 g 1 4 g 1 5 g 1"),
    (("told", 3, "one", 0, 10), "told 3 one 0 10"),
    (("told", 3, "one", 4, 2), "told 3 one 4 2"),
    (("strike", 59), "strike 59"),
    (("again", 1), "again 1"),
)


class EntryTextTest(unittest.TestCase):
    def test_write(self):
        for entry, line in TOLD:
            self.assertEqual(write_entry(entry), line)
        self.assertEqual(write_entry(["build", "m", "loop", [0, 1]]), "build m loop 0 1")
        self.assertEqual(write_entry(["seen", 1, "m", [[0], [1]], [[0, "g", 1]]]), "seen 1 m row 0 1 sights 0 g 1")

    def test_read(self):
        for entry, line in TOLD:
            self.assertEqual(read_entry(line), entry)
        # The house refuses rows of steps that do not belong together; the line is read.
        self.assertEqual(read_entry("seen 0 m row 0 01 - sights 99 g 2"), ("seen", 0, "m", ((0,), (0, 1), ()), ((99, "g", 2),)))

    def test_what_houses_enter(self):
        for house in many_houses(91, 30):
            for entry in house.book:
                self.assertEqual(read_entry(write_entry(entry)), entry)

    def test_the_first_bad_word(self):
        for line, word in (
                ("", 0), (None, 0), (7, 0), (("day",), 0), ("Day", 0), ("days", 0), (" day", 0), ("kind gate 1 2", 0),
                ("day ", 1), ("day 1", 1), ("come", 1), ("come  gate", 1), ("come gate", 2), ("come gate day", 2),
                ("come gate one two", 3), ("come Gate", 1), ("come gate one ", 3), ("build m", 2), ("build m 7", 2),
                ("build m loop 0 01", 4), ("build m loop 100", 3), ("build m loop -1", 3), ("build m loop x", 3),
                ("build m loop 1 2 3 4 5 6 7", 9), ("build m loop 1  2", 4), ("build m loop ", 3),
                ("swap m g", 3), ("swap m g 00", 3), ("swap m g 5 5", 4), ("swap m ninechars 5", 2), ("back m", 2),
                ("back m g h", 3), ("move m g n", 4), ("move m g n 0", 4), ("move m g n h m", 5), ("shelve", 1),
                ("shelve a", 1), ("scrap 1 2", 2), ("scrap +1", 1), ("give", 1), ("give house", 1), ("give m m", 2),
                ("take", 1), ("take 1", 1), ("told 1 one 2", 4), ("told 1 one 2 11", 4), ("told 1 one 11 2", 3),
                ("told 1 one 2 3 4", 5), ("told 100 one", 1), ("told 1 1", 2), ("strike", 1), ("strike 100", 1),
                ("again 1 ", 2), ("again  1", 1)):
            self.assertEqual(error_of(read_entry, line), ("BadLine", 0, word), line)

    def test_the_first_bad_word_of_what_was_seen(self):
        good = "seen 5 m row 01 sights 0 g 1"
        self.assertIsNone(error_of(read_entry, good))
        for line, word in (
                ("seen", 1), ("seen x", 1), ("seen 5", 2), ("seen 5 row", 2), ("seen 5 m", 3), ("seen 5 m sights", 3),
                ("seen 5 m row", 4), ("seen 5 m row sights 0 g 1", 4), ("seen 5 m row 012", 4), ("seen 5 m row 3", 4),
                ("seen 5 m row --", 4), ("seen 5 m row 0-", 4), ("seen 5 m row 0", 5), ("seen 5 m row 0 x", 5),
                ("seen 5 m row 0  sights", 5), ("seen 5 m row 0 0 0 0 0 0 0 0 0 sights", 12),
                ("seen 5 m row 0 0 0 0 0 0 0 0", 12), ("seen 5 m row 0 sights", 6), ("seen 5 m row 0 sights g", 6),
                ("seen 5 m row 0 sights 0", 7), ("seen 5 m row 0 sights 0 0", 7), ("seen 5 m row 0 sights 0 g", 8),
                ("seen 5 m row 0 sights 0 g 3", 8), ("seen 5 m row 0 sights 0 g 1 ", 9),
                ("seen 5 m row 0 sights 0 g 1 1 g", 11), ("seen 5 m row 0 sights 0 g 01", 8),
                ("seen 5 m row 0 sights" + " 0 g 1" * 6 + " 0", 24), ("seen 5 m row 0 sights" + " 0 g 1" * 7, 24)):
            self.assertEqual(error_of(read_entry, line), ("BadLine", 0, word), line)
