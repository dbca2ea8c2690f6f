"""What holds through the life of a house, between all that can be asked of it."""

import functools
import itertools
import random
import unittest

from tests.houses import condition, many_houses, told_of
from tests.looking import any_claim
from tests.raising import error_of
from tests.played import TESTS
from tests.repairs import DROP, ONE, STUCK, TURN, WIRE, ZERO, any_manual, manual_of
from tests.samples import any_catalogue, any_filling, any_plan, any_row
from tests.working import MANUAL, many_wire_houses, plain_filling, slow_house, wire_house
from tinkerhall.acting import Acting
from tinkerhall.allowed import all_candidates, candidates, conditions, keeps_news, worlds
from tinkerhall.best import Best
from tinkerhall.blame import cleared_parts, fewest, history, least_worlds, open_parts, since, sure_parts
from tinkerhall.calls import called_back, clearance
from tinkerhall.claims import breaks_claim, decide
from tinkerhall.folding import Folded, blocks
from tinkerhall.grounds import grounds
from tinkerhall.house import House
from tinkerhall.journal import read_journal, taken_up, write_journal
from tinkerhall.kinds import Catalogue
from tinkerhall.leaning import leaned
from tinkerhall.lookers import Looker
from tinkerhall.machines import run
from tinkerhall.manalike import manuals_alike, outcomes
from tinkerhall.menus import Menu
from tinkerhall.payers import payer, payer_in
from tinkerhall.runs import runs_in
from tinkerhall.signs import is_name
from tinkerhall.totals import bills
from tinkerhall.trials import Trial
from tinkerhall.working import admitted, case_of, do_manual

LOOKS = (("one", "g"), ("two", "c"), ("odd", "g"), ("one", "c"))
TERMS = (("maker", "pass", 0), ("dealer", "any", 1))


def best_of(case):
    """What is known of the best manual, if there is one that can be written."""
    menu = Menu(case.plan, TESTS, LOOKS)
    if error_of(Best, case, menu) is not None:
        return None
    best = Best(case, menu)
    return best if best and error_of(best.written) is None else None


@functools.cache
def wired_houses():
    """Houses with worlds left, and with a wire that is in; with its name and its best manual, or None."""
    found = []
    for house in many_wire_houses(501, 200):
        names = [name for name, plan, _, inside in house.floor().machines if plan == "wire" and inside]
        if names and worlds(house) and house.now < 40:
            found.append((house, names[0]))
    chance = random.Random(600)
    while len(found) < 180:
        house = chance.choice((wire_house, slow_house))(chance.choice((1, 1, 2)))
        house.enter(*[("day",)] * chance.choice((0, 0, 1)), *chance.choice(((), (("swap", "m", "g", 4),))))
        house.enter(*chance.choice(((("told", house.now, "old", 1, 1),), (("told", house.now, "old", 1, 2),),
                                    (("told", house.now, "old", 0, 1), ("told", house.now, "new", 0, 0)))))
        world = chance.choice(worlds(house))
        for _ in range(chance.choice((0, 1, 2))):
            house.enter(secret_news(chance, house, "m", world))
        found.append((house, "m"))
    return [(house, name, best_of(case_of(house, name))) for house, name in found]


def secret_news(chance, house, machine, world):
    """News of the machine as it is today in this world."""
    plan, filling = plain_filling(house, machine, world)
    row = any_row(chance, plan, 3)
    drive = [chance.choice(list(itertools.product(*[(0, 1) if plan.catalogue[kind].flees(told) else (0,) for kind,
                                                    told in filling])))
             for _ in row]
    shown = run(plan, filling, row, drive)
    line = chance.choice(plan.lines)
    return ("seen", house.now, machine, row, ((len(row) - 1, line, shown[-1][plan.lines.index(line)]),))


class FurtherNewsTest(unittest.TestCase):
    def test_let_in_again_or_cleared(self):
        chance = random.Random(601)
        words = {}
        for house, name, best in wired_houses():
            manuals = [any_manual(chance, WIRE, 2) for _ in range(6)] + [manual_of(("swap", "g"), ("swap", "c"), ("done",))]
            manuals += [best.written()] if best else []
            let_in = [manual for manual in manuals if admitted(house, name, manual, 200, strict=False)]
            for manual in let_in:
                before = answer(admitted(house, name, manual, 200, strict=False))
                more = house.copy()
                (number,) = more.enter(secret_news(chance, house, name, chance.choice(worlds(house))))
                verdict = admitted(more, name, manual, 200, strict=False)
                self.assertIn(verdict.breach and verdict.breach[0], (None, "cleared"))
                word = verdict.breach and verdict.breach[0]
                words[word] = words.get(word, 0) + 1
                behind = answer(verdict)
                # There and back.
                more.enter(("strike", number))
                self.assertEqual(answer(admitted(more, name, manual, 200, strict=False)), before)
                more.enter(("again", number))
                self.assertEqual(answer(admitted(more, name, manual, 200, strict=False)), behind)
        self.assertGreater(words[None], 100)
        self.assertGreater(words["cleared"], 3)

    def test_by_hand(self):
        house = wire_house()
        house.enter(("told", 6, "old", 1, 1))
        manual = manual_of(("swap", "g"), ("swap", "c"), ("done",))
        self.assertTrue(admitted(house, "m", manual, 8))
        house.enter(("seen", 7, "m", ((1,),), ((0, "g", 0),)))
        self.assertEqual(admitted(house, "m", manual, 8).breach, ("cleared", 0, ()))
        self.assertTrue(admitted(house, "m", manual_of(("swap", "g"), ("done",)), 3))
        house.enter(("strike", 7))
        self.assertTrue(admitted(house, "m", manual, 8))
        self.assertEqual(admitted(house, "m", manual_of(("swap", "g"), ("done",)), 3).breach, ("bad", 0, ()))
        house.enter(("again", 7))
        self.assertEqual(admitted(house, "m", manual, 8).breach, ("cleared", 0, ()))


def answer(verdict):
    return bool(verdict), verdict.breach, verdict.table


class BreachTest(unittest.TestCase):
    def test_it_is_seen_when_the_manual_is_done(self):
        chance = random.Random(602)
        words = {}
        for house, name, best in wired_houses():
            for _ in range(5):
                manual = any_manual(chance, WIRE, 2)
                limit = chance.choice((0, 3, 6, 60, 60))
                strict = chance.random() < 0.5
                case = case_of(house, name)
                breach = admitted(house, name, manual, limit, strict=strict).breach
                if breach is None:
                    continue
                word, world, signs = breach
                with Trial(house):
                    if error_of(do_manual, house, name, manual, signs) is not None:
                        continue
                with Trial(house):
                    done = do_manual(house, name, manual, signs)
                    left = worlds(house)
                    told = [conditions(house, other, house.today) for other in left]
                    # The world is left, so what is seen there can be so.
                    self.assertIn(case[world], told)
                    self.assertEqual(done.signs, signs)
                    self.assert_seen(house, name, done, word, case[world], limit)
                words[word] = words.get(word, 0) + 1
        self.assertEqual(sorted(words), ["bad", "cleared", "lack", "late", "quit", "untrue"])
        self.assertGreater(min(words.values()), 5)

    def assert_seen(self, house, name, done, word, world, limit):
        if word == "late":
            self.assertGreater(done.bill.minutes, limit)
        elif word in ("quit", "lack"):
            self.assertEqual(done.ended, word)
        elif word == "untrue":
            self.assertIn(0, [world[event[2]] for event in done.events if event[0] == "say"])
        elif word == "cleared":
            # A part that is whole in all worlds was taken off; it went to the bench, and can have come back since.
            put = [entry[3] for entry in house.book if entry[0] == "swap"]
            self.assertTrue(put)
            parts = [part for told, _, part in house.floor().bench if told == name] + list(house.floor().shelf)
            parts += house.floor().machine(name)[2]
            self.assertTrue(set(parts) & set(cleared_parts(house)))
        else:
            self.assertEqual((word, done.ended), ("bad", "done"))
            house.enter(("give", name))
            self.assertIn(name, [called for called, _, _ in called_back(house)])


class LeanedTest(unittest.TestCase):
    def test_leaned_manuals_of_the_house(self):
        chance = random.Random(603)
        for house, name, best in wired_houses()[::2]:
            case = case_of(house, name)
            for manual in (MANUAL, any_manual(chance, WIRE, 2)):
                if error_of(leaned, case, manual) is not None:
                    continue
                lean = leaned(case, manual)
                self.assertEqual(leaned(case, lean), lean)
                self.assertIsNone(manuals_alike(case, manual, lean))
                world = chance.randrange(len(case))
                self.assertEqual(outcomes(case, lean, world), outcomes(case, manual, world))
                self.assertTrue(all(told[1] <= other[1] for told, other in zip(bills(case, lean), bills(case, manual))))
                for limit in (5, 100):
                    if admitted(house, name, manual, limit, strict=False):
                        self.assertTrue(admitted(house, name, lean, limit, strict=False))
            if best:
                self.assertEqual(leaned(case, best.written()), best.written())


class FoldedHouseTest(unittest.TestCase):
    def test_worlds_and_calls(self):
        chance = random.Random(604)
        tried = left_out = called = 0
        while tried < 60:
            catalogue = any_catalogue(chance, 2)
            catalogue = Catalogue(2, catalogue.kinds[:7])
            plan = any_plan(chance, catalogue, chance.choice((1, 2)), 3)
            plan = plan.changed(places=[(name, kinds[:1], sources, minutes) for name, kinds, sources,
                                        minutes in plan.places])
            found = [block for block in blocks(plan) if error_of(Folded, plan, block, "fold") is None]
            if not found:
                continue
            folded = Folded(plan, chance.choice(found), "fold")
            tried += 1
            old, new = House(plan.catalogue, (("p", plan),)), House(folded.plan.catalogue, (("p", folded.plan),))
            for house in (old, new):
                told = house.plan_of("p")
                house.enter(*[("come", place[1][0], "one") for place in told.places],
                            ("build", "m", "p", tuple(range(len(told.places)))), ("day",))
            filling = any_filling(chance, plan, 1)
            row = any_row(chance, plan, 3)
            for _ in range(chance.choice((1, 2, 3))):
                line = chance.choice(folded.plan.lines)
                sign = run(plan, filling, row)[-1][plan.lines.index(line)]
                sights = ((len(row) - 1, line, sign),)
                old.enter(("seen", old.now, "m", row, sights))
                new.enter(("seen", new.now, "m", row, sights))
            for house in (old, new):
                house.enter(("give", "m"))
            self.assertEqual({world for told in worlds(new) for world in unfolded(folded, told)}, set(worlds(old)))
            left_out += len(worlds(new)) < candidates(new)
            calls = [called_back(house) if worlds(house) else None for house in (old, new)]
            self.assertEqual(bool(calls[0]), bool(calls[1]))
            if calls[0]:
                called += 1
                self.assertEqual(calls[0][0][0], calls[1][0][0])
                # What a world unfolds to is parted from the whole machine by the same row.
                for other in unfolded(folded, calls[1][0][1]):
                    self.assertEqual(Acting(*plain_filling(old, "m", other)).row, calls[1][0][2])
        self.assertGreater(left_out, 10)
        self.assertGreater(called, 15)


def unfolded(folded, world):
    """The worlds of the old house to which a world of the new one is unfolded: the day goes with the broken part."""
    found = []
    filling = tuple((place[1][0], state[0]) for place, state in zip(folded.plan.places, world))
    days = {since for way, since in world if way}
    for told in folded.unfold(filling):
        if len([condition for _, condition in told if condition]) > 1:
            # A masked part beside another broken one: more breaks than there can be.
            continue
        broken = [at for at, (_, condition) in enumerate(told) if condition]
        for since in (days or {0, 1} if broken else {0}):
            found.append(tuple((condition, since) if condition else (0, 0) for _, condition in told))
    return found


class MendedTest(unittest.TestCase):
    def test_called_back_taken_in_and_mended(self):
        chance = random.Random(605)
        mended = looked = 0
        for house, name, best in wired_houses():
            house = house.copy()
            house.enter(("give", name))
            if name not in [called for called, _, _ in called_back(house)]:
                self.assertIsNotNone(clearance(house, name))
                continue
            self.assertIsNone(clearance(house, name))
            house.enter(("take", name))
            case = case_of(house, name)
            if not best:
                continue
            manual = best.written()
            self.assertTrue(admitted(house, name, manual, best.value))
            world = chance.randrange(len(case))
            wanted = chance.choice(list(runs_in(case, manual, world)))
            self.assertEqual(do_manual(house, name, manual, wanted.signs), wanted)
            self.assertEqual(wanted.ended, "done")
            house.enter(("give", name))
            self.assertNotIn(name, [called for called, _, _ in called_back(house)])
            papers = clearance(house, name)
            for row, paper in papers:
                claim = ("never", tuple(zip(house.floor().machine(name)[2], row)))
                self.assertIsNone(Looker(house, claim)(paper))
            mended += 1
            looked += len(wanted.signs) > 0
        self.assertGreater(mended, 15)
        self.assertGreater(looked, 3)

    def test_by_hand(self):
        house = wire_house()
        house.enter(("give", "m"), ("told", 6, "old", 1, 1))
        self.assertEqual([name for name, _, _ in called_back(house)], ["m"])
        house.enter(("take", "m"))
        best = best_of(case_of(house, "m"))
        self.assertEqual(best.value, 8)
        do_manual(house, "m", best.written(), best.worst())
        house.enter(("give", "m"))
        self.assertEqual(called_back(house), ())
        self.assertTrue(clearance(house, "m"))


class MovedTest(unittest.TestCase):
    def test_by_hand(self):
        house = wire_house()
        house.enter(("come", "cell", "new"), ("build", "n", "wire", (2, 3)), ("seen", 8, "m", ((1,),), ((0, "g", 0),)))
        before = worlds(house)
        self.assertEqual(sure_parts(house), (0,))
        house.enter(("move", "m", "g", "n", "g"))
        self.assertEqual((worlds(house), sure_parts(house)), (before, (0,)))
        house.enter(("give", "m"), ("give", "n"))
        self.assertEqual([name for name, _, _ in called_back(house)], ["n"])
        self.assertIsNotNone(clearance(house, "m"))
        self.assertIsNone(clearance(house, "n"))
        # What is seen of the other machine now is seen of this part; what was seen ahead of it, of the one ahead of it.
        house.enter(("seen", 10, "n", ((0,),), ((0, "g", 0),)), ("seen", 9, "m", ((1,),), ((0, "g", 0),)))
        self.assertEqual(worlds(house), before[:1] + tuple(world for world in before[1:] if world[0][0] != 2))
        house.enter(("seen", 10, "n", ((0,),), ((0, "g", 1),)))
        self.assertEqual([world[0][0] for world in worlds(house)], [3])
        house.enter(("seen", 10, "m", ((0,),), ((0, "g", 1),)))
        self.assertEqual(worlds(house), ())

    def test_moves_change_no_world(self):
        moved = 0
        for house, _, _ in wired_houses():
            spots = [(name, place[0]) for name, plan, _, inside in house.floor().machines if inside
                     for place in house.plan_of(plan).places]
            for one, other in itertools.combinations(spots, 2):
                with Trial(house):
                    before = worlds(house), sure_parts(house), open_parts(house)
                    parts = [house.floor().machine(name)[2][("g", "c").index(place)] for name, place in (one, other)]
                    if error_of(house.enter, ("move", *one, *other)) is not None:
                        continue
                    self.assertEqual((worlds(house), sure_parts(house), open_parts(house)), before)
                    for (name, place), part in zip((one, other), parts[::-1]):
                        self.assertEqual(house.floor().where(part), ("place", name, place))
                    case = case_of(house, other[0])
                    at = ("g", "c").index(other[1])
                    self.assertEqual([case.filling_in(world)[at][1] for world in range(len(case))],
                                     [world[parts[0]] for world in case])
                    moved += one[0] != other[0]
        self.assertGreater(moved, 5)


class AllWorldsTest(unittest.TestCase):
    def test_nothing_is_untrue_of_a_world_that_keeps_all_news(self):
        chance = random.Random(606)
        asked = 0
        for house in (*many_wire_houses(501, 200), *many_houses(607, 60)):
            if candidates(house) > 400:
                continue
            kept = [world for world in all_candidates(house)
                    if all(keeps_news(house, world, number) for number in house.in_force())]
            self.assertEqual(tuple(kept), worlds(house))
            if not kept:
                continue
            world = chance.choice(kept)
            for part in sure_parts(house):
                self.assertNotEqual(world[part], (0, 0))
            for part in cleared_parts(house):
                self.assertEqual(world[part], (0, 0))
            self.assertLessEqual(fewest(house), sum(state != (0, 0) for state in world))
            self.assertFalse(least_worlds(house)[0] not in kept)
            for part, state in enumerate(world):
                if state != (0, 0):
                    earliest, _, latest, _ = since(house, part)
                    self.assertTrue(earliest <= state[1] <= latest)
                word, *told = payer(house, (), part)
                wanted = {told[0]} if word == "sure" else None
                self.assertTrue(wanted is None or payer_in(house, (), part, world) in wanted)
            for _ in range(4):
                claim = any_claim(chance, house)
                if decide(house, claim)[0] == "paper":
                    self.assertFalse(breaks_claim(house, world, claim))
                    asked += 1
            called = [name for name, _, _ in called_back(house)]
            for name, _, _, inside in house.floor().machines:
                if clearance(house, name) is not None or not inside and name not in called:
                    self.assertTrue(Acting(*plain_filling(house, name, world)))
        self.assertGreater(asked, 50)


def renamed(chance, lines):
    """The journal with other names, and its kinds in another order; and what each name is now."""
    names = sorted({word for line in lines for word in line.split(" ") if is_name(word)})
    others = ["z" + "".join(letters) for letters in itertools.product("abcdefgh", repeat=3)]
    new = dict(zip(names, chance.sample(others, len(names))))
    lines = [" ".join(new.get(word, word) for word in line.split(" ")) for line in lines]
    begun = [at for at, line in enumerate(lines) if line.startswith("kind ")]
    ends = [*begun[1:], [at for at, line in enumerate(lines) if line.startswith(("plan ", "most "))][0]]
    kinds = [lines[at:end] for at, end in zip(begun, ends)]
    chance.shuffle(kinds)
    return [lines[0], *[line for kind in kinds for line in kind], *lines[ends[-1]:]], new


class JournalTest(unittest.TestCase):
    def test_other_names_and_kinds_in_another_order(self):
        chance = random.Random(608)
        calls = 0
        for house in (*many_wire_houses(501, 80), *many_houses(609, 40)):
            lines, new = renamed(chance, write_journal(house))
            other = read_journal(lines)
            self.assertNotEqual(other, house)
            self.assertEqual((other.now, other.today, other.most, other.in_force()),
                             (house.now, house.today, house.most, house.in_force()))
            floor, told = house.floor(), other.floor()
            self.assertEqual(told.kinds, tuple(new[kind] for kind in floor.kinds))
            self.assertEqual((told.shelf, told.gone, told.came), (floor.shelf, floor.gone, floor.came))
            self.assertEqual(told.bench, tuple((new[name], new[place], part) for name, place, part in floor.bench))
            self.assertEqual(told.machines, tuple((new[name], new[plan], *rest) for name, plan, *rest in floor.machines))
            self.assertEqual(candidates(other), candidates(house))
            if candidates(house) > 400:
                continue
            self.assertEqual(worlds(other), worlds(house))
            for _ in range(3):
                claim = any_claim(chance, house)
                word, answered = decide(house, claim)
                self.assertEqual(decide(other, claim)[0], word)
                if word == "world":
                    self.assertEqual(decide(other, claim)[1], answered)
                else:
                    self.assertIsNone(Looker(other, claim)(answered))
            if not worlds(house):
                continue
            self.assertEqual(called_back(other), tuple((new[name], *rest) for name, *rest in called_back(house)))
            calls += len(called_back(house))
            for name, _, _, inside in floor.machines:
                papers, others = clearance(house, name), clearance(other, new[name])
                self.assertEqual(others and [row for row, _ in others], papers and [row for row, _ in papers])
                if inside and error_of(case_of, house, name) is None:
                    self.assertEqual(case_of(other, new[name]).worlds, case_of(house, name).worlds)
            if house.floor().kinds:
                terms = (("maker", house.floor().kinds[0], 1), ("dealer", "any", 0))
                new_terms = (("maker", new[house.floor().kinds[0]], 1), ("dealer", "any", 0))
                self.assertEqual(payer(other, new_terms, 0), payer(house, terms, 0))
            # The names back again.
            back = {name: old for old, name in new.items()}
            again = read_journal([" ".join(back.get(word, word) for word in line.split(" ")) for line in lines])
            self.assertEqual((again.plans == house.plans, again.book), (again.catalogue == house.catalogue, house.book))
        self.assertGreater(calls, 5)

    def test_claims_and_papers_of_a_house_that_was_read(self):
        chance = random.Random(610)
        wrong = right = 0
        for house in (*many_wire_houses(501, 100), *many_houses(611, 40)):
            if candidates(house) > 400:
                continue
            read = read_journal(write_journal(house))
            self.assertEqual(read, house)
            for _ in range(4):
                claim = any_claim(chance, house)
                self.assertEqual(decide(read, claim), decide(house, claim))
                if decide(house, claim)[0] == "paper":
                    paper = decide(house, claim)[1]
                    self.assertIsNone(Looker(read, claim)(paper))
                    for number in house.in_force()[:2]:
                        for told in (house, read):
                            with Trial(told):
                                told.enter(("strike", number))
                                way = Looker(told, claim)(paper)
                                told.enter(("again", number))
                                self.assertIsNone(Looker(told, claim)(paper))
                            self.assertEqual(way is not None, uses(paper, number))
                        wrong += uses(paper, number)
                        right += not uses(paper, number)
        self.assertGreater(wrong, 20)
        self.assertGreater(right, 20)


def uses(paper, number):
    if paper[0] == "part":
        return any(uses(inner, number) for inner in paper[2])
    return paper == ("news", number)


def asked_of(house, chance):
    """All kinds of questions, with their answers or errors."""
    def told(call, *things):
        try:
            return call(*things)
        except ValueError as error:
            return (error.__class__.__name__, *vars(error).values())

    claims = [any_claim(chance, house) for _ in range(2)]
    answers = [house.now, house.today, house.book, told_of(house.floor()), house.in_force(), candidates(house),
               told(worlds, house)]
    for call in (fewest, least_worlds, sure_parts, cleared_parts, open_parts, called_back):
        answers.append(told(call, house))
    for claim in claims:
        answers.append(told(decide, house, claim))
        answers.append(told(grounds, house, claim))
        answers.append(told(Looker(house, claim), ("many",)))
    for part in range(len(house.floor().kinds)):
        answers += [told(since, house, part), told(payer, house, TERMS, part)]
        answers.append(told(lambda one: list(history(house, one)), part))
    for name, plan, _, _ in house.floor().machines:
        answers.append(told(clearance, house, name))
        manual = any_manual(chance, house.plan_of(plan), 1)
        error = error_of(case_of, house, name)
        answers.append(error)
        if error is None:
            case = case_of(house, name)
            answers += [case.arrangement, case.worlds, case.kinds, answer(admitted(house, name, manual, 20))]
            with Trial(house):
                done = told(do_manual, house, name, manual, (0, 1))
                answers += [done if isinstance(done, tuple) else (done.events, done.arrangement, done.ended),
                            told(worlds, house)]
    answers.append(write_journal(house))
    return answers


class SameAnswersTest(unittest.TestCase):
    def test_the_house_a_copy_one_that_is_read_and_one_that_is_cut(self):
        asked = 0
        for number, house in enumerate((*many_wire_houses(501, 14), *many_houses(612, 14))):
            lines = write_journal(house)
            heading = len(lines) - house.now
            grown = house.upto(0)
            for moment in range(house.now + 1):
                if moment:
                    grown.enter(house.book[moment - 1])
                if candidates(grown) > 200 or moment % 3 and moment != house.now:
                    continue
                cut = house.upto(moment)
                taken, many = taken_up(lines[:heading + moment])
                self.assertEqual(many, heading + moment)
                houses = [grown, cut, grown.copy(), taken, read_journal(list(lines[:heading + moment]))]
                seed = 1000 * number + moment
                answers = [asked_of(told, random.Random(seed)) for told in houses]
                for told, given in zip(houses, answers):
                    self.assertEqual(told, grown)
                    self.assertEqual(given, answers[0])
                asked += 1
            self.assertEqual(grown, house)
        self.assertGreater(asked, 60)

    def test_worlds_of_the_broken_parts_that_are_told(self):
        # The names stand for what is broken in the wire, as in the tests of manuals.
        house = wire_house()
        case = case_of(house, "m")
        for broken in (ZERO, ONE, TURN, STUCK, DROP):
            row = tuple(dict(broken).get(part, 0) for part in range(5))
            self.assertIn(row, case.worlds)
        self.assertEqual(condition((1, 2), 1), 0)
