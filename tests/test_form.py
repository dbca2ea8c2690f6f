"""Whether the code of the package keeps the rules of the language that can be seen in its text."""

import ast
import builtins
import pathlib
import re
import unittest

PACKAGE = pathlib.Path(__file__).resolve().parent.parent / "tinkerhall"
FILES = sorted(PACKAGE.glob("*.py"))

LIBRARY = {"heapq": {"heapify", "heappop", "heappush", "heappushpop", "heapreplace"},
           "math": {"comb", "factorial", "gcd", "isqrt", "lcm", "perm"}}
BUILTINS = set("""len range enumerate zip min max sum abs sorted reversed int str bool list tuple dict set isinstance ord
repr any all divmod iter next ValueError KeyError IndexError LookupError ZeroDivisionError TypeError super property
staticmethod classmethod NotImplemented""".split())
METHODS = set("""append clear copy count endswith extend find get index insert isalnum isalpha isdigit islower isspace
isupper items join keys ljust lower lstrip partition pop remove replace reverse rfind rjust rpartition rsplit rstrip
setdefault split splitlines startswith strip update upper values zfill bit_length""".split())
DOUBLE = set("""__init__ __eq__ __repr__ __str__ __len__ __enter__ __exit__ __call__ __iter__ __add__ __sub__ __bool__
__contains__ __getitem__""".split())
NODES = (ast.Module, ast.Expr, ast.Assign, ast.AugAssign, ast.If, ast.While, ast.For, ast.Return, ast.Break, ast.Continue,
         ast.Pass, ast.Raise, ast.Delete, ast.With, ast.withitem, ast.Yield, ast.YieldFrom, ast.Try, ast.ExceptHandler,
         ast.FunctionDef, ast.ClassDef, ast.ImportFrom, ast.alias, ast.arguments, ast.arg, ast.keyword, ast.Constant,
         ast.Name, ast.Attribute, ast.Subscript, ast.Slice, ast.Call, ast.Starred, ast.List, ast.Tuple, ast.Dict,
         ast.ListComp, ast.SetComp, ast.DictComp, ast.comprehension, ast.BinOp, ast.UnaryOp, ast.BoolOp, ast.Compare,
         ast.IfExp, ast.JoinedStr, ast.FormattedValue, ast.expr_context, ast.operator, ast.unaryop, ast.boolop, ast.cmpop)
BARRED = (ast.Div, ast.MatMult)
ATTRIBUTES_BARRED = set("""items keys values pop update append clear extend insert remove reverse setdefault sort args
encode decode hex fromhex format mro register elements open input law""".split())
NAMES_BARRED = set("""register mro elements open input law compile copyright dir exit quit exec eval gc id license type
vars sys os super help""".split())
WORDS_BARRED = ("type typing typing_extensions enum Enum IntEnum StrEnum Flag IntFlag Generic Protocol ABC ABCMeta "
                "namedtuple NamedTuple TypedDict TYPE_CHECKING abstractmethod").split()
AT_ONCE = {"zip", "enumerate", "reversed", "range"}
TAKERS = {"list", "tuple", "dict", "sorted", "sum", "any", "all", "enumerate", "zip", "min", "max", "len", "reversed"}


def parents_of(tree):
    return {child: node for node in ast.walk(tree) for child in ast.iter_child_nodes(node)}


def docstrings_of(tree):
    found = []
    for node in ast.walk(tree):
        if isinstance(node, (ast.Module, ast.ClassDef, ast.FunctionDef)) and ast.get_docstring(node, clean=False):
            found.append(node.body[0].value)
    return found


def bound_names(tree):
    """Each name that is assigned, or is a parameter, a function or a class, with its node."""
    for node in ast.walk(tree):
        if isinstance(node, ast.Name) and isinstance(node.ctx, ast.Store):
            yield node.id, node
        elif isinstance(node, ast.arg):
            yield node.arg, node
        elif isinstance(node, (ast.FunctionDef, ast.ClassDef)) or isinstance(node, ast.ExceptHandler) and node.name:
            yield node.name, node


class FormTest(unittest.TestCase):
    def setUp(self):
        self.texts = {path.stem: path.read_text(encoding="utf-8") for path in FILES}
        self.trees = {name: ast.parse(text) for name, text in self.texts.items()}

    def each(self, *kinds):
        for name, tree in self.trees.items():
            for node in ast.walk(tree):
                if isinstance(node, kinds):
                    yield f"{name}:{getattr(node, 'lineno', 0)}", node

    def test_files(self):
        others = [path.name for path in PACKAGE.iterdir() if path not in FILES and path.name != "__pycache__"]
        self.assertEqual(others, [])
        self.assertLessEqual(len(FILES), 100)
        for name, text in self.texts.items():
            self.assertRegex(name, r"\A[a-z_0-9]+\Z")
            self.assertEqual([char for char in text if not (" " <= char <= "~" or char == "\n")], [], name)
            rows = text.split("\n")
            self.assertLessEqual(len(rows), 400, name)
            self.assertEqual([row for row in rows if len(row) > 120], [], name)

    def test_statements_and_expressions(self):
        for at, node in self.each(ast.AST):
            self.assertIsInstance(node, NODES, at)
            self.assertNotIsInstance(node, BARRED, at)

    def test_sizes_of_functions(self):
        for at, node in self.each(ast.FunctionDef):
            self.assertLessEqual(node.end_lineno - node.lineno + 1, 40, at)

    def test_imports(self):
        needed = {}
        for name, tree in self.trees.items():
            needed[name] = []
            others = [node for node in tree.body if not isinstance(node, ast.ImportFrom)]
            if ast.get_docstring(tree):
                others = others[1:]
            for node in ast.walk(tree):
                if not isinstance(node, ast.ImportFrom):
                    continue
                self.assertTrue(not others or node.lineno < others[0].lineno, name)
                self.assertEqual([alias.asname for alias in node.names if alias.asname], [], name)
                if node.module in LIBRARY:
                    self.assertLessEqual({alias.name for alias in node.names}, LIBRARY[node.module], name)
                    continue
                self.assertRegex(node.module, r"\Atinkerhall\.[a-z]+\Z", name)
                needed[name].append(node.module.split(".")[1])
                body = self.trees[needed[name][-1]].body
                there = {part.name for part in body if isinstance(part, (ast.FunctionDef, ast.ClassDef))}
                there |= {target.id for part in body if isinstance(part, ast.Assign) for target in part.targets}
                self.assertLessEqual({alias.name for alias in node.names}, there, name)
                for alias in node.names:
                    self.assertGreater(len(re.findall(rf"\b{alias.name}\b", self.texts[name])), 1, (name, alias.name))
        self.assert_no_circle(needed)

    def assert_no_circle(self, needed):
        left = dict(needed)
        while left:
            free = [name for name, others in left.items() if not any(other in left for other in others)]
            self.assertTrue(free, sorted(left))
            for name in free:
                del left[name]

    def test_module_level(self):
        for name, tree in self.trees.items():
            above = set()
            for node in tree.body[1 if ast.get_docstring(tree) else 0:]:
                self.assertIsInstance(node, (ast.ImportFrom, ast.FunctionDef, ast.ClassDef, ast.Assign), name)
                if isinstance(node, ast.FunctionDef):
                    above.add(node.name)
                if isinstance(node, ast.Assign):
                    self.assertIsInstance(node.targets[0], ast.Name)
                    self.assert_plain(node.value, above)

    def assert_plain(self, value, above):
        """A literal, or a table of functions that stand above it."""
        if isinstance(value, ast.Dict) and value.values and isinstance(value.values[0], ast.Name):
            self.assertLessEqual({part.id for part in value.values}, above)
            self.assertEqual([part for part in value.keys if not isinstance(part, ast.Constant)], [])
        else:
            ast.literal_eval(value)

    def test_names(self):
        barred = (set(dir(builtins)) | NAMES_BARRED) - {"__init__"}
        for name, tree in self.trees.items():
            methods = {part for node in ast.walk(tree) if isinstance(node, ast.ClassDef) for part in node.body}
            told = {alias.name for node in tree.body if isinstance(node, ast.ImportFrom) for alias in node.names}
            classes = {node.name for node in tree.body if isinstance(node, ast.ClassDef)}
            for bound, node in bound_names(tree):
                at = f"{name}:{node.lineno} {bound}"
                self.assertRegex(bound, r"\A_?[A-Za-z][A-Za-z0-9_]*\Z|\A_\Z|\A__[a-z]+__\Z", at)
                if bound.startswith("__"):
                    self.assertIn(bound, DOUBLE, at)
                elif node not in methods:
                    self.assertNotIn(bound, barred, at)
                    self.assertNotIn(bound, told, at)
                    if not isinstance(node, ast.ClassDef):
                        self.assertNotIn(bound, classes, at)
            top = [node.name for node in tree.body if isinstance(node, (ast.FunctionDef, ast.ClassDef))]
            top += [node.targets[0].id for node in tree.body if isinstance(node, ast.Assign)]
            self.assertEqual(len(set(top)), len(top), name)
            self.assertFalse(set(top) & told, name)

    def test_builtins(self):
        for name, tree in self.trees.items():
            bound = {told for told, _ in bound_names(tree)}
            bound |= {alias.name for node in tree.body if isinstance(node, ast.ImportFrom) for alias in node.names}
            for node in ast.walk(tree):
                if isinstance(node, ast.Name) and isinstance(node.ctx, ast.Load) and node.id not in bound:
                    self.assertIn(node.id, BUILTINS, f"{name}:{node.lineno}")

    def test_decorators(self):
        for at, node in self.each(ast.FunctionDef, ast.ClassDef):
            for told in node.decorator_list:
                text = ast.unparse(told)
                self.assertTrue(text in ("property", "staticmethod", "classmethod") or text.endswith(".setter"), at)

    def test_methods_and_attributes(self):
        own = {node.name for _, node in self.each(ast.FunctionDef)}
        for at, node in self.each(ast.Call):
            if isinstance(node.func, ast.Attribute):
                self.assertIn(node.func.attr, METHODS | own | {"__init__"}, at)
                if node.func.attr in METHODS:
                    self.assertEqual(node.keywords, [], at)
        methods = {}
        attributes = {}
        for at, node in self.each(ast.ClassDef):
            plain = [part for part in node.body if isinstance(part, ast.FunctionDef)]
            methods[node.name] = {part.name for part in plain}
            attributes[node.name] = {part.attr for part in ast.walk(node) if isinstance(part, ast.Attribute)
                                     and isinstance(part.ctx, ast.Store)}
            self.assertFalse(attributes[node.name] & ATTRIBUTES_BARRED, at)
            setters = {part.name for part in plain if part.decorator_list and "setter" in ast.unparse(part.decorator_list[0])}
            self.assertFalse(attributes[node.name] & methods[node.name] - setters, at)
        generators = {node.name for _, node in self.each(ast.FunctionDef)
                      if any(isinstance(part, (ast.Yield, ast.YieldFrom)) for part in ast.walk(node))}
        names = [node.name for _, node in self.each(ast.FunctionDef)]
        for name in generators:
            self.assertEqual((names.count(name), name in METHODS), (1, False), name)

    def test_attributes_that_are_read_are_assigned(self):
        assigned = {node.attr for _, node in self.each(ast.Attribute) if isinstance(node.ctx, ast.Store)}
        own = {node.name for _, node in self.each(ast.FunctionDef)}
        for at, node in self.each(ast.Attribute):
            if isinstance(node.ctx, ast.Load) and node.attr != "setter":
                self.assertIn(node.attr, assigned | own | METHODS | {"__init__"}, at)

    def test_special_methods(self):
        for at, node in self.each(ast.FunctionDef):
            last = node.body[-1]
            if node.name == "__iter__":
                self.assertRegex(ast.unparse(node.body[0]), r"\Areturn iter\(self\.\w+\)\Z", at)
            if node.name == "__len__":
                self.assertRegex(ast.unparse(last), r"\Areturn len\(.*\)\Z", at)
            if node.name == "__eq__":
                self.assertRegex(ast.unparse(last), r"\Areturn isinstance\(other, \w+\) and ", at)
                self.assertEqual(len(node.body), 1, at)

    def test_what_is_iterated_at_once(self):
        for name, tree in self.trees.items():
            above = parents_of(tree)
            for node in ast.walk(tree):
                if not isinstance(node, ast.Call):
                    continue
                plain = isinstance(node.func, ast.Name) and node.func.id in AT_ONCE
                view = isinstance(node.func, ast.Attribute) and node.func.attr in ("items", "keys", "values")
                if plain or view:
                    taker = above[node]
                    taken = isinstance(taker, (ast.For, ast.comprehension)) or (
                        isinstance(taker, ast.Call) and isinstance(taker.func, ast.Name) and taker.func.id in TAKERS)
                    inside = isinstance(taker, ast.Compare) and plain and node.func.id == "range"
                    self.assertTrue(taken or inside, f"{name}:{node.lineno}")

    def test_what_is_reversed(self):
        # Where a class has items, reversed goes over what is surely no object of it.
        for at, node in self.each(ast.Call):
            if ast.unparse(node.func) == "reversed":
                over = node.args[0]
                called = ast.unparse(over.func) if isinstance(over, ast.Call) else ""
                self.assertTrue(called in ("list", "tuple", "sorted", "range")
                                or isinstance(over, (ast.List, ast.Tuple, ast.Constant)), at)

    def test_values(self):
        for name, tree in self.trees.items():
            above, documents = parents_of(tree), docstrings_of(tree)
            for node in ast.walk(tree):
                at = f"{name}:{getattr(node, 'lineno', 0)}"
                if isinstance(node, ast.Constant):
                    self.assertNotIsInstance(node.value, (float, complex, bytes), at)
                    if isinstance(node.value, str):
                        self.assertNotIn("%", node.value, at)
                        self.assertNotIn("\\", node.value, at)
                        if node not in documents:
                            words = re.findall(r"\w+", node.value)
                            self.assertFalse(set(words) & set(WORDS_BARRED) - {"type"}, at)
                if isinstance(node, (ast.Set, ast.SetComp)) or (
                        isinstance(node, ast.Call) and isinstance(node.func, ast.Name) and node.func.id == "set"):
                    taker = above[node]
                    self.assertTrue(isinstance(taker, ast.Call) and ast.unparse(taker.func) in ("sorted", "len"), at)
                if isinstance(node, ast.Compare) and any(isinstance(sign, (ast.Is, ast.IsNot)) for sign in node.ops):
                    self.assertIn(ast.unparse(node.comparators[-1]), ("None", "True", "False"), at)
                if isinstance(node, ast.BinOp) and isinstance(node.op, ast.Pow):
                    self.assertIsInstance(node.right, ast.Constant, at)
                if isinstance(node, ast.Raise) and node.exc is not None:
                    self.assertIsInstance(node.exc, ast.Call, at)

    def test_keywords_of_builtins(self):
        allowed = {"sorted": {"key", "reverse"}, "min": {"key", "default"}, "max": {"key", "default"},
                   "sum": {"start"}, "enumerate": {"start"}, "zip": {"strict"}}
        for at, node in self.each(ast.Call):
            if isinstance(node.func, ast.Name) and node.func.id in BUILTINS:
                self.assertLessEqual({word.arg for word in node.keywords}, allowed.get(node.func.id, set()), at)

    def test_what_a_loop_goes_over_is_not_changed_in_it(self):
        changing = {"append", "clear", "extend", "insert", "pop", "remove", "reverse", "setdefault", "update"}
        for at, node in self.each(ast.For):
            over = {part.id for part in ast.walk(node.iter) if isinstance(part, ast.Name)}
            for part in [below for row in node.body for below in ast.walk(row)]:
                if isinstance(part, ast.Call) and isinstance(part.func, ast.Attribute) and part.func.attr in changing:
                    self.assertNotIn(ast.unparse(part.func.value), over, at)
                if isinstance(part, ast.Subscript) and isinstance(part.ctx, ast.Store):
                    self.assertNotIn(ast.unparse(part.value), over, at)
