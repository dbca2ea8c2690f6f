"""Whether what a loop walks is left as it is in the loop, under all the names that it may have."""

import ast
import pathlib
import textwrap
import unittest

PACKAGE = pathlib.Path(__file__).resolve().parent.parent / "tinkerhall"

CHANGING = set("""add append clear discard extend insert pop remove reverse setdefault sort update""".split())
SEEN_THROUGH = {"enumerate", "zip", "reversed", "iter"}
VIEWS = {"items", "keys", "values"}
SPOTS = (ast.Name, ast.Attribute, ast.Subscript)


def spots_in(value):
    """The names, attributes and items, as texts, whose very list or dict an expression may give."""
    if isinstance(value, SPOTS):
        return [] if isinstance(value, ast.Subscript) and isinstance(value.slice, ast.Slice) else [ast.unparse(value)]
    if isinstance(value, ast.IfExp):
        return spots_in(value.body) + spots_in(value.orelse)
    if isinstance(value, ast.BoolOp):
        return [spot for part in value.values for spot in spots_in(part)]
    if isinstance(value, ast.NamedExpr):
        return spots_in(value.target) + spots_in(value.value)
    return []


def walked(over):
    """The spots whose list or dict a loop over this expression walks."""
    if isinstance(over, ast.Call) and isinstance(over.func, ast.Name) and over.func.id in SEEN_THROUGH:
        return [spot for part in over.args for spot in walked(part)]
    if isinstance(over, ast.Call) and isinstance(over.func, ast.Attribute) and over.func.attr in VIEWS:
        return walked(over.func.value)
    return spots_in(over)


def pairs_of(target, value):
    """What an assignment gives to what, as far as both are written out."""
    if isinstance(target, (ast.Tuple, ast.List)) and isinstance(value, (ast.Tuple, ast.List)):
        return [pair for spot, part in zip(target.elts, value.elts) for pair in pairs_of(spot, part)]
    return [(one, other) for one in spots_in(target) for other in spots_in(value)]


def links_in(function):
    """Pairs of spots of which one is given the list or dict of the other, wherever this stands."""
    links = []
    for node in ast.walk(function):
        if isinstance(node, ast.Assign):
            links += [pair for target in node.targets for pair in pairs_of(target, node.value)]
            links += [pair for target in node.targets[1:] for pair in pairs_of(node.targets[0], target)]
        elif isinstance(node, ast.NamedExpr):
            links += pairs_of(node.target, node.value)
    return links


def other_names(spots, links):
    """These spots, and all that may stand for the same lists and dicts."""
    met = dict.fromkeys(spots, True)
    waiting = list(spots)
    while waiting:
        spot = waiting.pop()
        for pair in links:
            if spot in pair:
                behind = [other for other in pair if other not in met]
                met.update(dict.fromkeys(behind, True))
                waiting += behind
    return met


def changed_in(nodes):
    """The spots whose list or dict is changed, with their lines."""
    for node in [part for row in nodes for part in ast.walk(row)]:
        spots = []
        if isinstance(node, ast.Call) and isinstance(node.func, ast.Attribute) and node.func.attr in CHANGING:
            spots = spots_in(node.func.value)
        elif isinstance(node, ast.Subscript) and not isinstance(node.ctx, ast.Load):
            spots = spots_in(node.value)
        elif isinstance(node, ast.AugAssign):
            spots = spots_in(node.target)
        for spot in spots:
            yield node.lineno, spot


def loops_in(function):
    """Each loop and comprehension: what it goes over, and what is done in it."""
    for node in ast.walk(function):
        if isinstance(node, ast.For):
            yield [node.iter], node.body
        elif isinstance(node, (ast.ListComp, ast.SetComp, ast.DictComp, ast.GeneratorExp)):
            yield [part.iter for part in node.generators], [node]


def faults_of(text):
    """The places where what a loop walks is changed in it: rows (name of the function, line, what is changed)."""
    found = {}
    for function in ast.walk(ast.parse(text)):
        if isinstance(function, ast.FunctionDef):
            links = links_in(function)
            for overs, done in loops_in(function):
                barred = other_names([spot for over in overs for spot in walked(over)], links)
                found.update({(function.name, line, spot): True for line, spot in changed_in(done) if spot in barred})
    return sorted(found)


def changed_by(body):
    """What is changed, where it may not be, in a function with this body."""
    text = "def low(box, xs, ys):\n" + textwrap.indent(textwrap.dedent(body), "    ")
    return [spot for _, _, spot in faults_of(text)]


class LoopsTest(unittest.TestCase):
    def test_the_package(self):
        for path in sorted(PACKAGE.glob("*.py")):
            self.assertEqual(faults_of(path.read_text(encoding="utf-8")), [], path.name)

    def test_by_its_name(self):
        for row in ("xs.append(x)", "xs[0] = x", "del xs[0]", "xs += [x]", "if x:\n        xs.pop()\n        break"):
            for over in ("xs", "enumerate(xs)", "zip(ys, xs)", "reversed(xs)", "xs.items()", "xs if ys else ()",
                         "ys or xs"):
                self.assertEqual(changed_by(f"for x in {over}:\n    {row}"), ["xs"], (row, over))
        self.assertEqual(changed_by("return [xs.pop() for x in xs]"), ["xs"])

    def test_a_field(self):
        self.assertEqual(changed_by("for x in box.rows:\n    box.rows.append(x)"), ["box.rows"])
        self.assertEqual(changed_by("box.rows = xs\nfor x in xs:\n    box.rows.append(x)"), ["box.rows"])
        self.assertEqual(changed_by("for x in xs[0]:\n    xs[0].append(x)"), ["xs[0]"])

    def test_another_name(self):
        level = "level = [1]\nwhile level:\n    behind = []\n    for x in {}:\n        behind.append(x)\n    level = {}"
        self.assertEqual(changed_by(level.format("level", "behind")), ["behind"])
        self.assertEqual(changed_by(level.format("enumerate(level)", "behind")), ["behind"])
        self.assertEqual(changed_by(level.format("level", "behind if xs else ys")), ["behind"])
        for over, behind in (("list(level)", "behind"), ("level[:]", "behind"), ("sorted(level)", "behind"),
                             ("level", "list(behind)"), ("level", "behind[:]"), ("level", "[*behind]")):
            self.assertEqual(changed_by(level.format(over, behind)), [], (over, behind))

    def test_names_of_names(self):
        for body in ("one = two = xs\nfor x in one:\n    two.append(x)",
                     "two, k = xs, 1\nfor x in xs:\n    two.append(x)",
                     "one = xs\ntwo = one\nfor x in xs:\n    two.append(x)",
                     "for x in xs:\n    two.append(x)\n    two = xs",
                     "two = ys or xs\nfor x in xs:\n    two.append(x)"):
            self.assertEqual(changed_by(body), ["two"], body)

    def test_what_may_be_changed(self):
        for body in ("two = list(xs)\nfor x in xs:\n    two.append(x)", "for x in xs:\n    ys.append(x)",
                     "for x in list(xs):\n    xs.remove(x)", "two = xs\nfor x in ys:\n    two.append(x)",
                     "for x in xs:\n    x.append(1)", "for x in xs:\n    pass\nxs.append(1)"):
            self.assertEqual(changed_by(body), [], body)
