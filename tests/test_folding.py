import itertools
import random
import unittest

from tests import naive
from tests.raising import error_of
from tests.samples import CATALOGUE, EMPTY, EXAMPLE, GATE, JOIN, TURN, TURNED, any_row, many_fillings
from tinkerhall.folding import Folded, blocks
from tinkerhall.kinds import Catalogue, Kind
from tinkerhall.machines import run
from tinkerhall.plans import Plan

# h turns a, and g joins it with b: what is folded gives 0 just for the inputs 1 0.
PLACES = (("k", ("cell",), ("b",), 1), ("h", ("turn",), ("a",), 30), ("t", ("turn",), ("k",), 1),
          ("g", ("join",), ("h", "b"), 40), ("l", ("cell",), ("g",), 1))
PLAN = Plan(CATALOGUE, ("a", "b"), PLACES, ("l", "t"))


def fold_error(plan, names, kind="new"):
    return error_of(Folded, plan, names, kind)


def flat(name, inputs, ways, price=0):
    """A kind that gives 0 for all inputs, with ways that give 1 for these indexes."""
    size = 2 ** inputs
    tables = [tuple(1 if at in spots else 0 for at in range(size)) for _, spots in ways]
    return Kind(2, name, inputs, (0,) * size, price=price,
                ways=[(word, "abcdef"[at], table) for at, ((word, _), table) in enumerate(zip(ways, tables))])


class FoldedTest(unittest.TestCase):
    def test_attributes(self):
        folded = Folded(PLAN, ["g", "h"], "new")
        self.assertIs(folded.old, PLAN)
        self.assertEqual((folded.block, folded.outlet, folded.outer), (("h", "g"), "g", ("a", "b")))
        self.assertEqual(folded.kind, Kind(2, "new", 2, (1, 1, 0, 1), price=5, ways=(
            ("stands", "wa", (1, 1, 1, 1)), ("stands", "wb", (0, 1, 0, 0)))))
        self.assertEqual((folded.members, folded.masked), (((("h", 1),), (("g", 1),)), ()))
        self.assertEqual(folded.plan, Plan(CATALOGUE + folded.kind, ("a", "b"), (
            PLACES[0], ("g", ("new",), ("a", "b"), 60), PLACES[2], PLACES[4]), ("l", "t")))

    def test_minutes_and_price_have_bounds(self):
        dear = Kind(2, "dear", 1, (1, 0), price=300)
        plan = Plan(Catalogue(2, (dear, TURN)), ("a",), (
            ("p", ("dear",), ("a",), 20), ("q", ("dear",), ("p",), 19), ("r", ("turn",), ("q",), 20)), ("r",))
        self.assertEqual((Folded(plan, ("p", "q"), "new").kind.price, Folded(plan, ("p", "q"), "new").plan["q"][3]), (600, 39))
        self.assertEqual((Folded(plan, ("p", "q", "r"), "new").kind.price, Folded(plan, ("q", "r"), "new").kind.price),
                         (600, 301))
        self.assertEqual(Folded(plan, ("p", "q", "r"), "new").plan["r"], ("r", ("new",), ("a",), 59))
        longer = plan.changed(places=[(*place[:3], 31) for place in plan.places])
        self.assertEqual(Folded(longer, ("p", "q"), "new").plan["q"][3], 60)

    def test_one_place_and_no_outer_line(self):
        plan = EXAMPLE.changed(places=(("g", ("gate",), ("in", "c"), 3), EXAMPLE.places[1]))
        folded = Folded(plan, ("g",), "new")
        self.assertEqual((folded.kind.table, folded.kind.price, [way[0] for way in folded.kind.ways]),
                         (GATE.table, 3, ["stands", "flees", "flees"]))
        self.assertEqual([way[1] for way in folded.kind.ways], ["wa", "wb", "wc"])
        fixed = Kind(2, "fixed", 0, (1,), ways=(("flees", "gone", (0,)),))
        plan = Plan(Catalogue(2, (fixed, TURN)), (), (("f", ("fixed",), (), 1), ("t", ("turn",), ("f",), 1)), ("t",))
        folded = Folded(plan, ("f", "t"), "new")
        self.assertEqual((folded.outer, folded.kind.inputs, folded.kind.table, folded.kind.ways),
                         ((), 0, (0,), (("flees", "wa", (1,)), ("stands", "wb", (1,)))))

    def test_outer_lines_as_they_are_met_first(self):
        plan = Plan(CATALOGUE, ("a", "b"), (("p", ("gate",), ("q", "b"), 1), ("q", ("gate",), ("b", "a"), 1)), ("p",))
        self.assertEqual(Folded(plan, ("p", "q"), "new").outer, ("b", "a"))
        self.assertEqual(Folded(plan, ("p", "q"), "new").plan.places, (("p", ("new",), ("b", "a"), 2),))
        # A line between two places of the block can be an outer one only if it keeps.
        kept = Plan(CATALOGUE, ("a",), (("p", ("turn",), ("a",), 1), ("k", ("cell",), ("q",), 1),
                                        ("q", ("gate",), ("p", "k"), 1)), ("k",))
        self.assertEqual(Folded(kept, ("p", "q"), "new").plan.places,
                         (("q", ("new",), ("a", "k"), 2), ("k", ("cell",), ("q",), 1)))

    def test_masked_pairs_and_further_members(self):
        one = flat("one", 1, [("stands", (0,)), ("flees", (0,)), ("stands", (0, 1)), ("stands", (1,))])
        two = flat("two", 2, [("stands", (2, 3)), ("stands", (0,)), ("flees", (0, 1))])
        plan = Plan(Catalogue(2, (one, two)), ("a",), (("p", ("one",), ("a",), 1), ("q", ("two",), ("p", "a"), 1)), ("q",))
        folded = Folded(plan, ("q", "p"), "new")
        self.assertEqual(folded.kind.table, (0, 0))
        # What is broken in p is not seen in q; q breaks for the input 0, or for all.
        self.assertEqual(folded.masked, (("p", 1), ("p", 2), ("p", 3), ("p", 4), ("q", 1)))
        self.assertEqual(folded.kind.ways, (("stands", "wa", (1, 0)), ("flees", "wb", (1, 1))))
        twice = Plan(Catalogue(2, (one, TURN)), ("a",), (("p", ("one",), ("a",), 1), ("q", ("turn",), ("p",), 1)), ("q",))
        folded = Folded(twice, ("p", "q"), "new")
        self.assertEqual(folded.kind.table, (1, 1))
        self.assertEqual(folded.kind.ways, (("stands", "wa", (0, 1)), ("flees", "wb", (0, 1)), ("stands", "wc", (0, 0)),
                                            ("stands", "wd", (1, 0))))
        self.assertEqual(folded.masked, (("q", 1),))
        ends = flat("ends", 1, [("stands", (0,)), ("flees", (0,)), ("stands", (0, 1))])
        plan = Plan(Catalogue(2, (JOIN, ends)), ("a",), (("p", ("ends",), ("a",), 1), ("q", ("ends",), ("a",), 1),
                                                         ("r", ("join",), ("p", "q"), 1)), ("r",))
        folded = Folded(plan, ("p", "q", "r"), "new")
        self.assertEqual(folded.members, ((("p", 1), ("q", 1)), (("p", 2), ("q", 2)), (("p", 3), ("q", 3))))
        self.assertEqual(folded.masked, (("r", 1),))

    def test_six_ways_and_seven(self):
        four = flat("four", 1, [("stands", (0,)), ("flees", (0,)), ("stands", (1,)), ("flees", (1,))])
        both = flat("both", 2, [("stands", (0, 3)), ("flees", (0, 3)), ("stands", (0,))])
        catalogue = Catalogue(2, (four, both, JOIN))
        places = (("p", ("four",), ("a",), 1), ("q", ("both",), ("a", "b"), 1), ("r", ("join",), ("p", "q"), 1))
        plan = Plan(catalogue, ("a", "b"), places, ("r",))
        self.assertEqual(fold_error(plan, ("p", "q", "r")), ("TooMany", "way"))
        # What is wrong with the name, or with the number of kinds, goes ahead.
        self.assertEqual(fold_error(plan, ("p", "q", "r"), "New"), ("BadName", "New"))
        self.assertEqual(fold_error(plan, ("p", "q", "r"), "both"), ("Twice", "both"))
        full = Plan(Catalogue(2, (*catalogue.kinds, *[Kind(2, name, 0, (0,)) for name in "abcde"])), ("a", "b"), places, ("r",))
        self.assertEqual(fold_error(full, ("p", "q", "r")), ("TooMany", "kind"))
        six = flat("both", 2, [("stands", (0, 3)), ("flees", (0, 3))])
        plan = Plan(Catalogue(2, (four, six, JOIN)), ("a", "b"), places, ("r",))
        folded = Folded(plan, ("p", "q", "r"), "new")
        self.assertEqual([way[1] for way in folded.kind.ways], ["wa", "wb", "wc", "wd", "we", "wf"])
        self.assertEqual(folded.masked, (("r", 1),))

    def test_unfold_and_fold(self):
        ends = flat("ends", 1, [("stands", (0,)), ("flees", (0,)), ("stands", (0, 1))])
        plan = Plan(Catalogue(2, (JOIN, ends, TURN)), ("a",), (
            ("t", ("turn",), ("r",), 1), ("p", ("ends",), ("a",), 1), ("q", ("ends",), ("a",), 1),
            ("r", ("join",), ("p", "q"), 1)), ("t",))
        folded = Folded(plan, ("p", "q", "r"), "new")
        whole, t = ("ends", 0), ("turn", 1)
        self.assertEqual(folded.unfold([["turn", 1], ["new", 1]]),
                         ((t, ("ends", 1), whole, ("join", 0)), (t, whole, ("ends", 1), ("join", 0))))
        self.assertEqual(folded.unfold((t, ("new", 0))),
                         ((t, whole, whole, ("join", 0)), (t, whole, whole, ("join", 1))))
        self.assertEqual(folded.fold([["turn", 1], ["ends", 0], ["ends", 2], ["join", 0]]), (t, ("new", 2)))
        self.assertEqual(folded.fold((t, whole, whole, ("join", 1))), (t, ("new", 0)))
        self.assertEqual(folded.fold(plan.own), (("turn", 0), ("new", 0)))
        self.assertIsNone(folded.fold((t, whole, ("ends", 2), ("join", 1))))

    def test_bad_fillings(self):
        folded = Folded(PLAN, ("g", "h"), "new")
        self.assertEqual(error_of(folded.unfold, PLAN.own), ("BadFilling", -1))
        own = folded.plan.own
        self.assertEqual(error_of(folded.unfold, (own[0], ("join", 0), *own[2:])), ("BadFilling", 1))
        self.assertEqual(error_of(folded.unfold, (own[0], ("new", 3), *own[2:])), ("BadFilling", 1))
        self.assertEqual(error_of(folded.fold, own), ("BadFilling", -1))
        self.assertEqual(error_of(folded.fold, (*PLAN.own[:4], ("cell", 7))), ("BadFilling", 4))
        self.assertEqual(error_of(folded.fold, (None, *PLAN.own[1:4], ("cell", 7))), ("BadFilling", 0))

    def assert_shows_the_same(self, folded, chance):
        condition = chance.randrange(len(folded.kind) + 1)
        filling = tuple(("new", condition) if place[0] == folded.outlet else
                        (place[1][0], chance.randrange(len(folded.plan.catalogue[place[1][0]]) + 1))
                        for place in folded.plan.places)
        row = any_row(chance, folded.plan, 8)
        comings = [chance.choice(naive.all_tuples([(0, 1)] * len(folded.plan))) for _ in row]
        names = [place[0] for place in folded.plan.places]
        shown = run(folded.plan, filling, row, comings)
        unfolded = folded.unfold(filling)
        self.assertEqual(len(unfolded), len(folded.members[condition - 1]) if condition else 1 + len(folded.masked))
        for old in unfolded:
            told = [tuple(coming[names.index(place[0] if place[0] in names and place[0] not in folded.block
                                            else folded.outlet)] for place in folded.old.places) for coming in comings]
            whole = run(folded.old, old, row, told)
            self.assertEqual(shown, tuple(naive.at_lines(folded.old, signs, folded.plan.lines) for signs in whole))
            self.assertEqual(folded.fold(old), filling)

    def test_both_plans_show_the_same(self):
        chance = random.Random(16)
        many = 0
        for plan, _ in many_fillings(71, 400, places=(3, 4, 5, 6)):
            single = plan.changed(places=[(place[0], place[1][:1], *place[2:]) for place in plan.places])
            used = {place[1][0] for place in single.places}
            # The catalogue needs room for the new kind.
            catalogue = Catalogue(plan.catalogue.signs, [kind for kind in plan.catalogue if kind.name in used])
            told = Plan(catalogue, single.entries, single.places, single.exits)
            for block in blocks(told):
                if fold_error(told, block) is None:
                    many += 1
                    self.assert_shows_the_same(Folded(told, block, "new"), chance)
        self.assertGreater(many, 60)

    def test_folded_once_more(self):
        places = (("p", ("turn",), ("a",), 1), ("q", ("gate",), ("p", "b"), 1), ("r", ("join",), ("q", "b"), 1))
        plan = Plan(Catalogue(2, (TURN, GATE, JOIN)), ("a", "b"), places, ("r",))
        once = Folded(plan, ("p", "q"), "new")
        twice = Folded(once.plan, ("q", "r"), "newer")
        at_once = Folded(plan, ("p", "q", "r"), "all")
        self.assertEqual(twice.plan.places, (("r", ("newer",), ("a", "b"), 3),))
        self.assertEqual([kind.name for kind in twice.plan.catalogue], ["turn", "gate", "join", "new", "newer"])
        self.assertEqual((twice.kind.table, twice.kind.price), (at_once.kind.table, at_once.kind.price))
        for condition in range(len(twice.kind) + 1):
            for middle in twice.unfold((("newer", condition),)):
                self.assertEqual(twice.fold(middle), (("newer", condition),))
                for old in once.unfold(middle):
                    for row in itertools.product(itertools.product((0, 1), repeat=2), repeat=2):
                        self.assertEqual([naive.at_lines(plan, shown, ("r",)) for shown in run(plan, old, row, [(1,) * 3] * 2)],
                                         [shown[-1:] for shown in run(twice.plan, (("newer", condition),), row, [(1,)] * 2)])


class BlockErrorsTest(unittest.TestCase):
    def test_names(self):
        for names in (None, (), [], "gh", ("g", "g"), ("g", "a"), ("g", "no"), ("g", 1), ("g", None), ("gate",), ("g", ["h"])):
            self.assertEqual(fold_error(PLAN, names, None), ("BadBlock", "names"), names)
        self.assertEqual(fold_error(EMPTY, ("in",)), ("BadBlock", "names"))

    def test_kinds_then_keeps(self):
        self.assertEqual(fold_error(EXAMPLE, ("c", "g"), None), ("BadBlock", "kinds"))
        self.assertEqual(fold_error(EXAMPLE, ("c",), None), ("BadBlock", "kinds"))
        self.assertEqual(fold_error(TURNED, ("k", "j")), ("BadBlock", "kinds"))
        self.assertEqual(fold_error(TURNED, ("k",)), ("BadBlock", "keeps"))
        self.assertEqual(fold_error(PLAN, ("k", "h", "t", "g"), None), ("BadBlock", "keeps"))

    def test_two_outer_lines_and_three(self):
        places = (("k", ("cell",), ("b",), 1), ("p", ("gate",), ("a", "b"), 1), ("q", ("gate",), ("p", "b"), 1),
                  ("r", ("gate",), ("p", "k"), 1), ("s", ("gate",), ("q", "p"), 1))
        plan = Plan(CATALOGUE, ("a", "b"), places, ("s",))
        self.assertIsNone(fold_error(plan, ("q", "s")))
        self.assertEqual(fold_error(plan, ("p", "q", "r"), None), ("BadBlock", "lines"))
        self.assertEqual(fold_error(plan, ("p", "r"), "Bad"), ("BadBlock", "lines"))
        self.assertEqual(fold_error(plan, ("p", "q")), ("BadBlock", "outlet"))

    def test_outlet(self):
        self.assertEqual(fold_error(PLAN, ("h", "t"), None), ("BadBlock", "outlet"))
        # Nothing hangs on p and q at all.
        alone = Plan(CATALOGUE, ("a",), (("p", ("turn",), ("a",), 1), ("q", ("turn",), ("p",), 1)), ("a",))
        self.assertEqual(fold_error(alone, ("p", "q")), ("BadBlock", "outlet"))
        # A place of the block that is an exit is an outlet, too.
        self.assertIsNone(fold_error(alone.changed(exits=("q",)), ("p", "q")))
        self.assertEqual(fold_error(alone.changed(exits=("p", "q")), ("p", "q")), ("BadBlock", "outlet"))

    def test_ring(self):
        places = (("p", ("turn",), ("a",), 1), ("q", ("turn",), ("p",), 1), ("r", ("join",), ("a", "q"), 1))
        plan = Plan(CATALOGUE, ("a",), places, ("r",))
        self.assertEqual(fold_error(plan, ("p", "r"), None), ("BadBlock", "outlet"))
        places = (("p", ("turn",), ("a",), 1), ("q", ("turn",), ("p",), 1), ("r", ("join",), ("p", "q"), 1))
        self.assertEqual(fold_error(plan.changed(places=places), ("p", "r")), ("BadBlock", "outlet"))
        # Only p is an outlet of p and s; q, on which s hangs, hangs on p.
        places = (("p", ("turn",), ("a",), 1), ("q", ("turn",), ("p",), 1), ("s", ("turn",), ("q",), 1))
        plan = Plan(CATALOGUE, ("a",), places, ("q",))
        self.assertEqual(fold_error(plan, ("p", "s"), None), ("BadBlock", "ring"))
        keeping = (places[0], ("q", ("cell",), ("p",), 1), places[2])
        self.assertIsNone(fold_error(plan.changed(places=keeping), ("p", "s")))
        further = (*places[:2], ("u", ("turn",), ("q",), 1), ("s", ("turn",), ("u",), 1))
        self.assertEqual(fold_error(plan.changed(places=further), ("p", "s")), ("BadBlock", "ring"))

    def test_errors_of_the_new_kind(self):
        for name in ("New", "", "table", "abcdefghi", None, 3, ["new"]):
            self.assertEqual(fold_error(PLAN, ("g", "h"), name), ("BadName", name))
        self.assertEqual(fold_error(PLAN, ("g", "h"), "cold"), ("Twice", "cold"))
        extra = [Kind(2, name, 0, (0,)) for name in "abc"]
        full = Plan(Catalogue(2, (*CATALOGUE.kinds, *extra)), PLAN.entries, PLAN.places, PLAN.exits)
        self.assertEqual(fold_error(full, ("g", "h"), "a"), ("Twice", "a"))
        self.assertEqual(fold_error(full, ("g", "h"), "new"), ("TooMany", "kind"))
        self.assertEqual(fold_error(full, ("g", "k"), "new"), ("BadBlock", "keeps"))
        seven = Plan(Catalogue(2, (*CATALOGUE.kinds, *extra[:2])), PLAN.entries, PLAN.places, PLAN.exits)
        self.assertIsNone(fold_error(seven, ("g", "h"), "new"))


class BlocksTest(unittest.TestCase):
    def test_plain_ones(self):
        self.assertEqual(list(blocks(PLAN)), [("h", "g")])
        self.assertEqual((list(blocks(EXAMPLE)), list(blocks(EMPTY))), ([], []))

    def test_ascending_by_numbers(self):
        places = [(name, ("turn",), (source,), 1) for name, source in zip("wvutsr", "awvuts")]
        plan = Plan(CATALOGUE, ("a",), places, ("r",))
        numbers = [tuple("wvutsr".index(name) for name in block) for block in blocks(plan)]
        self.assertEqual(numbers, [tuple(range(first, last + 1)) for first in range(6) for last in range(first + 1, 6)])

    def test_just_those_that_are_not_refused(self):
        many = 0
        for plan, _ in many_fillings(72, 150, places=(2, 3, 4, 5, 6)):
            names = [place[0] for place in plan.places]
            told = []
            for size in range(2, len(names) + 1):
                for numbers in itertools.combinations(range(len(names)), size):
                    error = fold_error(plan, [names[number] for number in numbers], "new")
                    if error is None or error[0] != "BadBlock":
                        told.append(numbers)
            many += len(told)
            self.assertEqual(list(blocks(plan)), [tuple(names[number] for number in numbers) for numbers in sorted(told)])
        self.assertGreater(many, 40)
