import random
import re
import unittest

from tests.houses import built_house, many_houses, told_of
from tests.raising import error_of
from tests.working import many_wire_houses, wire_house
from tinkerhall.entrytext import read_entry, write_entry
from tinkerhall.errors import BadLine, Torn
from tinkerhall.house import House
from tinkerhall.journal import read_journal, taken_up, write_journal
from tinkerhall.kinds import Catalogue
from tinkerhall.signs import WORDS

HEADING = ("signs 2", "kind lamp 0 5", "table 1", "stands dark 0", "kind cell 1 600", "keeps 0", "table 0101",
           "flees drop 0000",
           "plan lit", "place p 1 lamp from", "exit p", "plan loop", "entry in", "place c 60 cell from in", "exit c in",
           "most 2")
ENTRIES = ("come lamp one", "come cell two", "build m lit 0", "build n loop 1", "day",
           "seen 4 n row 1 0 sights 0 in 1 1 c 1", "told 5 one 0 1", "strike 5", "give m")
LINES = HEADING + ENTRIES
NAME, NUMBER, DIGITS = "name", r"0|[1-9][0-9]*", "[012]{1,27}"
PATTERNS = {"signs": ("[23]",), "kind": (NAME, "[012]", NUMBER), "keeps": ("[012]",), "table": (DIGITS,),
            "stands": (NAME, DIGITS),
            "flees": (NAME, DIGITS), "plan": (NAME,), "entry": (NAME,), "most": ("[0123]",)}


def is_good(word, pattern):
    if pattern == NAME:
        return re.fullmatch("[a-z]{1,8}", word) is not None and word not in WORDS
    return re.fullmatch(pattern, word) is not None and (pattern != NUMBER or len(word) < 4 and int(word) <= 600)


def bad_word(words):
    """The first bad word of a line of the heading behind its first one, or None."""
    if words[0] in PATTERNS:
        wanted = PATTERNS[words[0]]
        for at, pattern in enumerate(wanted, 1):
            if at == len(words) or not is_good(words[at], pattern):
                return at
        return len(wanted) + 1 if len(words) > len(wanted) + 1 else None
    at, names = 1, [0, 0]
    if words[0] == "place":
        for pattern in (NAME, "[1-9]|[1-5][0-9]|60", NAME):
            if at == len(words) or not is_good(words[at], pattern):
                return at
            at += 1
        while at < len(words) and at < 6 and words[at] != "from":
            if not is_good(words[at], NAME):
                return at
            at += 1
        if at == len(words) or words[at] != "from":
            return at
        at += 1
        names = [0, 2]
    else:
        names = [1, 2]
    for number in range(names[1]):
        if at == len(words):
            return at if number < names[0] else None
        if not is_good(words[at], NAME):
            return at
        at += 1
    return at if at < len(words) else None


BEHIND = {None: ("signs",), "signs": ("kind", "plan", "most"), "kind": ("keeps", "table"), "keeps": ("table",),
          "table": ("stands", "flees", "kind", "plan", "most"), "plan": ("entry", "place", "exit"),
          "entry": ("entry", "place", "exit"),
          "place": ("place", "exit"), "exit": ("plan", "most")}


def heading_fault(lines):
    """The first line and word of the heading that cannot be read, or the number of the lines of a good one."""
    last = None
    for number, line in enumerate(lines):
        words = line.split(" ") if isinstance(line, str) else [""]
        if words[0] not in BEHIND["table" if last in ("stands", "flees") else last]:
            return (number, 0), None
        if bad_word(words) is not None:
            return (number, bad_word(words)), None
        last = words[0]
        if last == "most":
            return None, number + 1
    return (len(lines), 0), None


def entry_fault(lines, begun):
    """The first line and word behind the heading that cannot be read, or None."""
    for number in range(begun, len(lines)):
        try:
            read_entry(lines[number])
        except BadLine as error:
            return number, error.word
    return None


class WriteJournalTest(unittest.TestCase):
    def test_lines(self):
        house = read_journal(LINES)
        self.assertEqual(write_journal(house), LINES)
        self.assertEqual((house.most, house.now, house.today), (2, 9, 1))
        self.assertEqual([name for name, _ in house.plans], ["lit", "loop"])
        self.assertEqual(house.book, tuple(read_entry(line) for line in ENTRIES))
        self.assertEqual(house.floor().machines, (("m", "lit", (0,), False), ("n", "loop", (1,), True)))

    def test_a_house_with_nothing_in_it(self):
        for house in (House(Catalogue(2)), House(Catalogue(3), most=0)):
            self.assertEqual(write_journal(house), (f"signs {house.catalogue.signs}", f"most {house.most}"))
            self.assertEqual(read_journal(write_journal(house)), house)
            self.assertEqual(taken_up(list(write_journal(house))), (house, 2))

    def test_written_and_read_back(self):
        for house in (*many_houses(521, 80), *many_wire_houses(501, 60), built_house(), wire_house(3)):
            lines = write_journal(house)
            self.assertIsInstance(lines, tuple)
            self.assertTrue(all(isinstance(line, str) for line in lines))
            for told in (lines, list(lines)):
                read = read_journal(told)
                self.assertEqual(read, house)
                self.assertEqual([told_of(read.floor(at)) for at in range(house.now + 1)],
                                 [told_of(house.floor(at)) for at in range(house.now + 1)])
                self.assertEqual(taken_up(told), (house, len(lines)))
            self.assertEqual(lines[len(lines) - house.now:], tuple(write_entry(entry) for entry in house))


class ReadJournalTest(unittest.TestCase):
    def assert_bad(self, lines, line, word):
        self.assertEqual(error_of(read_journal, lines), ("BadLine", line, word), lines)

    def test_bad_lines(self):
        for at, line, word in ((0, "signs 4", 1), (0, "sign 2", 0), (0, "kind lamp 0 5", 0), (1, "kind lamp 3 5", 2),
                               (1, "kind lamp 0 601", 3),
                               (2, "table 3", 1), (2, "kind cell 1 600", 0), (3, "stands dark", 2), (5, "keeps 3", 1),
                               (8, "plan", 1),
                               (8, "plan Lit", 1), (8, "plan plan", 1), (8, "plan lit lit", 2), (8, "entry in", 0),
                               (9, "plan lit", 0),
                               (9, "place p 0 lamp from", 2), (9, "place p 61 lamp from", 2), (10, "exit", 1),
                               (10, "most 2", 0),
                               (11, "come lamp one", 0), (15, "most 4", 1), (15, "most", 1), (15, "most 2 2", 2),
                               (15, "most 02", 1),
                               (15, "day", 0), (16, "come lamp", 2), (16, "most 2", 0), (16, "plan more", 0),
                               (20, "day 1", 1), (20, "", 0),
                               (21, "seen 4 n row 1 0 sight 0 in 1", 6), (22, "told 5 one 0 11", 4), (24, "give", 1),
                               (24, "odd", 0),
                               (24, None, 0), (3, 7, 0), (16, ("day",), 0)):
            lines = list(LINES)
            lines[at] = line
            self.assert_bad(lines, at, word)
        self.assert_bad((*LINES, ""), len(LINES), 0)
        self.assert_bad((), 0, 0)

    def test_lines_that_lack(self):
        for many in range(len(HEADING)):
            self.assert_bad(LINES[:many], many, 0)
        for many in range(len(HEADING), len(LINES) + 1):
            self.assertEqual(read_journal(LINES[:many]).now, many - len(HEADING))

    def test_bad_lines_go_ahead_of_errors_of_objects(self):
        lines = list(LINES)
        faults = ((22, "told 9 one 0 1", ("NoMoment", 9)), (17, "come odd two", ("Unknown", "odd")),
                  (11, "plan lit", ("BadHouse", "plans")),
                  (13, "place c 60 lamp from in", ("Unfit", "c")), (9, "place p 1 odd from", ("Unknown", "odd")),
                  (4, "kind lamp 1 600", ("Twice", "lamp")), (7, "flees drop 0101", ("BadKind", "lamp")),
                  (3, "stands dark 1", ("BadKind", "lamp")))
        for at, line, error in faults:
            lines[at] = line
            self.assertEqual(error_of(read_journal, lines), error)
            self.assertEqual(error_of(read_journal, (*lines, "odd")), ("BadLine", len(lines), 0))
        # All kinds, then the catalogue, then the plans in order, then the house, then the entries in order.
        self.assertEqual(error_of(read_journal, lines[:12]), ("BadLine", 12, 0))

    def test_errors_of_objects(self):
        nine = [line for letter in "abcdefghi" for line in (f"kind k{letter} 0 0", "table 0")]
        self.assertEqual(error_of(read_journal, ("signs 2", *nine, "most 1")), ("TooMany", "kind"))
        self.assertIsNone(error_of(read_journal, ("signs 2", *nine[:16], "most 1")))
        five = [line for letter in "abcde" for line in (f"plan p{letter}", "entry in", "exit in")]
        self.assertEqual(error_of(read_journal, ("signs 2", *five, "most 1")), ("BadHouse", "plans"))
        self.assertIsNone(error_of(read_journal, ("signs 2", *five[:12], "most 1")))
        self.assertEqual(error_of(read_journal, ("signs 2", *five[:3] * 2, "most 1")), ("BadHouse", "plans"))
        self.assertEqual(error_of(read_journal, ("signs 2", "plan pa", "entry in", "entry in", "exit in", "most 1",
                                                 "come a b")), ("Twice", "in"))
        self.assertEqual(error_of(read_journal, ("signs 2", "plan pa", "exit in", "plan pb", "entry in", "entry in",
                                                 "exit in", "most 1")),
                         ("Unknown", "in"))

    def test_errors_of_entries(self):
        self.assertEqual(error_of(read_journal, (*LINES, "told 5 one 2 1")), ("BadEntry", 9))
        self.assertEqual(error_of(read_journal, (*LINES, "give m", "told 5 one 2 1")), ("Away", "m"))
        self.assertEqual(error_of(read_journal, (*LINES, "strike 6", "swap m p 0")), ("Away", "m"))
        self.assertEqual(error_of(read_journal, (*HEADING, *["come lamp one"] * 11)), ("TooMany", "part"))
        self.assertEqual(error_of(read_journal, (*LINES, *["give n", "take n"] * 26)), ("TooMany", "entry"))
        self.assertIsNone(error_of(read_journal, (*LINES, *["give n", "take n"] * 25, "give n")))

    def test_mutated_journals(self):
        chance = random.Random(522)
        words = ["day", "most", "plan", "exit", "0", "1", "3", "01", "", "x", "Ab", "from", "in", "p", "kind", "table",
                 "61", "come"]
        told = {}
        for _ in range(3000):
            lines = list(LINES)
            for _ in range(chance.choice((1, 1, 2))):
                at = chance.randrange(len(lines))
                change = chance.randrange(6)
                if change == 0:
                    lines.pop(at)
                elif change == 1:
                    lines.insert(at, chance.choice((*words, *LINES)))
                else:
                    split = lines[at].split(" ")
                    spot = chance.randrange(len(split) + 1)
                    split[spot:spot + chance.choice((0, 1, 1))] = [chance.choice(words)] * chance.choice((0, 1, 1, 1))
                    lines[at] = " ".join(split)
            fault, begun = heading_fault(lines)
            if fault is None:
                fault = entry_fault(lines, begun)
            error = error_of(read_journal, lines)
            if fault is not None:
                self.assertEqual(error, ("BadLine", *fault), lines)
            else:
                self.assertTrue(error is None or error[0] != "BadLine", lines)
            self.assert_taken_up(lines)
            told[fault is None, error is None] = told.get((fault is None, error is None), 0) + 1
        self.assertGreater(min(told.values()), 20)
        self.assertEqual(len(told), 3)

    def assert_taken_up(self, lines):
        fault, begun = heading_fault(lines)
        if fault is not None:
            self.assertEqual(error_of(taken_up, lines), ("Torn", fault[0]))
            return
        try:
            house = read_journal(lines[:begun])
        except ValueError:
            self.assertEqual(error_of(taken_up, lines), error_of(read_journal, lines[:begun]))
            return
        many = begun
        for line in lines[begun:]:
            try:
                house.enter(read_entry(line))
            except ValueError:
                break
            many += 1
        self.assertEqual(taken_up(lines), (house, many))


class TakenUpTest(unittest.TestCase):
    def test_cut_at_each_line(self):
        whole = read_journal(LINES)
        for many in range(len(LINES) + 1):
            if many < len(HEADING):
                self.assertEqual(error_of(taken_up, LINES[:many]), ("Torn", many))
            else:
                self.assertEqual(taken_up(LINES[:many]), (whole.upto(many - len(HEADING)), many))

    def test_a_heading_that_lacks_a_line(self):
        for at, torn in ((0, 0), (1, 1), (2, 2), (6, 6), (8, 8), (10, 10), (12, None), (14, 14), (15, 15)):
            lines = LINES[:at] + LINES[at + 1:]
            if torn is not None:
                self.assertEqual(error_of(taken_up, lines), ("Torn", torn), at)
        self.assertEqual(error_of(taken_up, LINES[:12] + LINES[13:]), ("Unknown", "in"))
        # Without its ways a kind is another one, but it can be read.
        self.assertEqual(taken_up(LINES[:3] + LINES[4:])[1], len(LINES) - 1)

    def test_torn_is_caused_by_the_bad_line(self):
        for lines, line, word in ((LINES[:5], 5, 0), (("signs 2", "kind lamp 0"), 1, 3), ((None,), 0, 0), ((), 0, 0),
                                  ((*LINES[:15], "most 9"), 15, 1)):
            with self.assertRaises(Torn) as caught:
                taken_up(lines)
            self.assertEqual(caught.exception.line, line)
            cause = caught.exception.__cause__
            self.assertIsInstance(cause, BadLine)
            self.assertEqual((cause.line, cause.word), (line, word))

    def test_torn_goes_ahead_of_errors_of_objects(self):
        lines = ["signs 2", "kind lamp 0 5", "table 0101", "most 1", "odd"]
        self.assertEqual(error_of(taken_up, lines), ("BadKind", "lamp"))
        self.assertEqual(error_of(taken_up, lines[:3]), ("Torn", 3))
        self.assertEqual(error_of(read_journal, lines), ("BadLine", 4, 0))
        lines[2:3] = ["table 1", "plan a", "exit x"]
        self.assertEqual(error_of(taken_up, lines), ("Unknown", "x"))
        lines[4:5] = ["exit x x"]
        self.assertEqual(error_of(taken_up, lines), ("BadPlan", "exits"))
        lines[4:5] = ["exit x x x"]
        self.assertEqual(error_of(taken_up, lines), ("Torn", 4))

    def test_up_to_what_cannot_be_read_or_is_refused(self):
        whole = read_journal(LINES)
        for bad in ("", "odd", "day ", "day 1", "come lamp", None, 7, "give m", "come odd one", "told 5 one 2 1",
                    "strike 4", "told 10 one 0 0"):
            self.assertEqual(taken_up((*LINES, bad, "day")), (whole, len(LINES)), bad)
            self.assertEqual(taken_up([*HEADING, bad, *ENTRIES]), (whole.upto(0), len(HEADING)), bad)
        lines = (*LINES, *["give n", "take n"] * 26)
        self.assertEqual(taken_up(lines)[0].now, 60)
        self.assertEqual(taken_up(lines)[1], len(HEADING) + 60)

    def test_it_can_go_on(self):
        house, many = taken_up(LINES[:-2])
        house.enter(*[read_entry(line) for line in LINES[many:]])
        self.assertEqual(house, read_journal(LINES))

    def test_many_houses_cut_anywhere(self):
        for house in many_houses(523, 25):
            lines = write_journal(house)
            heading = len(lines) - house.now
            for many in range(heading, len(lines) + 1):
                self.assertEqual(taken_up(lines[:many]), (house.upto(many - heading), many))
                self.assertEqual(taken_up((*lines[:many], "odd", *lines[many:])), (house.upto(many - heading), many))
            for many in range(heading):
                self.assertEqual(error_of(taken_up, lines[:many]), ("Torn", many))
