"""Whether what the document lists stands in the files where it lists it."""

import ast
import importlib
import inspect
import pathlib
import unittest

PACKAGE = pathlib.Path(__file__).resolve().parent.parent / "tinkerhall"

# For each file its functions with their parameters, and its classes with those of what they define themselves.
FUNCTIONS = {
    "signs": ("is_name(thing)", "is_row(thing, signs, width, most=60)", "write_steps(row)"),
    "machines": ("step(plan, filling, standing, inputs, coming=None)", "beginning(plan, filling)",
                 "run(plan, filling, row, comings=())"),
    "standings": ("standings(plan, filling)", "least_table(plan, filling, lines=None)"),
    "acting": ("acts(plan, filling)",),
    "showings": ("comings_of(plan, filling, many)", "showings(plan, filling, row, lines=None)",
                 "shows(plan, filling, row, sights)", "readable(plan, filling, row, line)"),
    "cattext": ("write_catalogue(catalogue)", "read_catalogue(lines)"),
    "tables": ("needless(kind)", "can_give(kind, condition=0)"),
    "alone": ("alike_alone(first, second)", "hidden_ways(kind)"),
    "plantext": ("write_plan(plan)", "read_plan(catalogue, lines)"),
    "cones": ("cone(plan, line)", "delay(plan, entry, line)"),
    "folding": ("blocks(plan)",),
    "alike": ("judge_pairs(plan, filling, other, other_filling, table, *, lines=None, other_lines=None)",
              "classes(plan, fillings, lines=None)"),
    "exchanges": ("exchanged(plan, exchanges)", "parts(plan, exchanges)", "least_parting(plan)", "all_exchanges(plan)"),
    "comings": ("explained(plan, filling, row, sights)",),
    "trials": ("tried(house, entries)",),
    "allowed": ("states(house, part, moment=None)", "candidates(house, moment=None)", "worlds(house, moment=None)",
                "keeps_news(house, world, number)", "conditions(house, world, day)"),
    "entrytext": ("write_entry(entry)", "read_entry(line)"),
    "blame": ("fewest(house)", "least_worlds(house)", "blamed_parts(house)", "sure_parts(house)", "cleared_parts(house)",
              "open_parts(house)", "since(house, part)", "history(house, part)"),
    "claims": ("breaks_claim(house, world, claim)", "decide(house, claim, *, limit=None)"),
    "grounds": ("grounds(house, claim)", "quarrels(house)"),
    "flows": ("flow(manual)",),
    "manwrite": ("write_manual(manual)",),
    "manread": ("read_manual(lines)",),
    "judging": ("standings_of(case, manual)", "followers(case, manual, standing)", "takes(case, manual, standing)"),
    "verdicts": ("judge_table(case, manual, limit, table, *, strict=True)",),
    "totals": ("bills(case, manual)", "most_minutes(case, manual)", "needs(case, manual)"),
    "leaning": ("leaned(case, manual)",),
    "manalike": ("outcomes(case, manual, world)", "manuals_alike(case, first, second)"),
    "nodes": ("is_met(case, node, goal=None)", "deeds_at(case, menu, node, goal=None)",
              "followers_of(case, menu, node, deed)", "nodes(case, menu, goal=None)"),
    "values": ("value_table(case, menu, goal=None)", "judge_values(case, menu, table, goal=None)"),
    "working": ("case_of(house, machine)", "admitted(house, machine, manual, limit, *, strict=True)",
                "do_manual(house, machine, manual, signs)"),
    "calls": ("called_back(house)", "clearance(house, machine)"),
    "payers": ("payer_in(house, terms, part, world)", "payer(house, terms, part)"),
    "journal": ("write_journal(house)", "read_journal(lines)", "taken_up(lines)"),
    "runs": ("follow(case, manual, signs)", "left_by(case, manual, signs)", "runs_in(case, manual, world)"),
}
CLASSES = {
    ("kinds", "Kind"): ("__init__(self, signs, name, inputs, table, *, start=None, ways=(), price=0)", "keeps",
                        "__len__(self)", "__eq__(self, other)", "spot(self, inputs, kept=0)",
                        "tables(self, condition)", "flees(self, condition)"),
    ("kinds", "Catalogue"): ("__init__(self, signs, kinds=())", "__getitem__", "__contains__", "__len__", "__iter__",
                             "__eq__", "__add__"),
    ("plans", "Plan"): ("__init__(self, catalogue, entries, places, exits)", "__getitem__", "__contains__", "__len__",
                        "__iter__", "__eq__", "lines", "keeping", "own", "alone(kind)", "changed(self, **parts)"),
    ("machines", "Machine"): ("__init__(self, plan, filling)", "standing", "go(self, *steps, comings=())",
                              "fresh(self)", "copy(self)", "__eq__"),
    ("acting", "Acting"): ("__init__(self, plan, filling)", "__bool__", "__len__", "__iter__"),
    ("cases", "Case"): ("__init__(self, plan, kinds, placed, shelf, worlds, *, bench=())", "__len__", "__getitem__",
                        "__iter__", "__eq__", "of(plan, kinds, placed, shelf, most, *, bench=())",
                        "filling_in(self, world, arrangement=None)", "broken(self, world)",
                        "swapped(self, place, arrangement=None)", "put_back(self, place, arrangement=None)",
                        "cleared(self, place, left, arrangement=None)", "with_worlds(self, left)"),
    ("alike", "Alike"): ("__init__(self, plan, filling, other, other_filling, *, lines=None, other_lines=None)",
                         "__bool__", "__len__", "__iter__"),
    ("covers", "Behaviour"): ("__init__(self, plan, filling, *, lines=None)", "__contains__", "__eq__",
                              "covers(self, other)"),
    ("covers", "Covering"): ("__bool__",),
    ("covers", "Parting"): ("__init__(self, first, second)", "__bool__", "__len__", "__iter__"),
    ("floors", "Floor"): ("where(self, part)", "machine(self, name)", "__eq__"),
    ("house", "House"): ("__init__(self, catalogue, plans=(), *, most=1)", "now", "today", "book",
                         "enter(self, *entries)", "__getitem__", "__len__", "__iter__", "__eq__", "plan_of(self, name)",
                         "floor(self, moment=None)", "in_force(self, moment=None)", "upto(self, moment)", "copy(self)"),
    ("trials", "Trial"): ("__init__(self, house)", "__enter__", "__exit__"),
    ("lookers", "Looker"): ("__init__(self, house, claim, *, limit=None)", "__call__(self, paper)", "first_lots(self)"),
    ("bill", "Bill"): ("__init__(self, minutes=0, price=0)", "__add__", "__sub__", "__eq__"),
    ("manuals", "Manual"): ("__init__(self, tests, chapters)", "__getitem__", "__contains__", "__len__", "__iter__",
                            "__eq__", "__add__", "weight", "test_row(self, name)", "statements(self)", "fits(self, plan)",
                            "__call__(self, case, signs)"),
    ("runs", "Run"): ("deeds", "__eq__"),
    ("verdicts", "Verdict"): ("__init__(self, case, manual, limit, *, strict=True)", "__bool__", "__len__", "__iter__"),
    ("menus", "Menu"): ("__init__(self, plan, tests, looks)", "__len__", "__iter__", "__eq__", "test_row(self, name)"),
    ("best", "Best"): ("__init__(self, case, menu, *, goal=None)", "__bool__", "__len__", "__iter__", "trap",
                       "written(self)",
                       "answer(self, node, deed)", "worst(self)"),
    ("folding", "Folded"): ("__init__(self, plan, names, kind)", "unfold(self, filling)", "fold(self, filling)"),
}


class InterfaceTest(unittest.TestCase):
    def test_functions(self):
        for name, told in FUNCTIONS.items():
            module = importlib.import_module(f"tinkerhall.{name}")
            for text in told:
                function = getattr(module, text.partition("(")[0])
                self.assertEqual(function.__name__ + str(inspect.signature(function)), text)
                self.assertEqual(function.__module__, module.__name__)

    def test_classes(self):
        for (name, label), told in CLASSES.items():
            module = importlib.import_module(f"tinkerhall.{name}")
            box = getattr(module, label)
            self.assertEqual(box.__module__, module.__name__)
            for text in told:
                method, _, arguments = text.partition("(")
                self.assertIn(method, vars(box), label)
                if arguments:
                    self.assertEqual(str(inspect.signature(getattr(box, method))), "(" + arguments)

    def test_properties(self):
        for name, label, told in (("kinds", "Kind", ("keeps",)), ("plans", "Plan", ("lines", "keeping", "own")),
                                  ("machines", "Machine", ("standing",)),
                                  ("house", "House", ("now", "today", "book")),
                                  ("manuals", "Manual", ("weight",)), ("runs", "Run", ("deeds",)),
                                  ("best", "Best", ("trap",))):
            box = getattr(importlib.import_module(f"tinkerhall.{name}"), label)
            for word in told:
                self.assertIsInstance(vars(box)[word], property)

    def test_generators_do_nothing_ahead(self):
        for name, word in (("showings", "comings_of"), ("folding", "blocks"), ("exchanges", "all_exchanges"),
                           ("blame", "history"), ("runs", "runs_in")):
            function = getattr(importlib.import_module(f"tinkerhall.{name}"), word)
            self.assertTrue(inspect.isgeneratorfunction(function))

    def test_the_package_itself_is_empty(self):
        self.assertEqual(len(ast.parse((PACKAGE / "__init__.py").read_text()).body), 1)
