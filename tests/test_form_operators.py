"""Whether operators, and whatever they call, change nothing and call nothing that they are passed or hold."""

import ast
import pathlib
import textwrap
import unittest

PACKAGE = pathlib.Path(__file__).resolve().parent.parent / "tinkerhall"

# Operators, and what is held to the same rule in a package that has one; properties are, too.
HELD = set("""__add__ __sub__ __bool__ __contains__ __getitem__ __eq__ __len__ __str__ __repr__""".split())
CHANGING = set("""add append clear discard extend insert pop remove reverse setdefault sort update""".split())
MAKING = {"list", "dict", "set", "sorted"}
LITERALS = (ast.List, ast.Dict, ast.Set, ast.ListComp, ast.DictComp, ast.SetComp)
BARRED = (ast.Yield, ast.YieldFrom, ast.Nonlocal, ast.With, ast.Lambda)


def body_of(function):
    """All nodes of a function, but those of its parameters."""
    return [node for row in function.body for node in ast.walk(row)]


def local_names(function):
    told = function.args
    names = {arg.arg for arg in (*told.posonlyargs, *told.args, *told.kwonlyargs, told.vararg, told.kwarg) if arg}
    return names | {node.id for node in body_of(function) if isinstance(node, ast.Name) and isinstance(node.ctx, ast.Store)}


def assigned_to(function, name):
    """What is assigned to a local variable; None where that is not seen."""
    found = [None] if name in [arg.arg for arg in ast.walk(function.args) if isinstance(arg, ast.arg)] else []
    for node in body_of(function):
        told = [part for part in ast.walk(node) if isinstance(part, ast.Name) and isinstance(part.ctx, ast.Store)]
        if isinstance(node, ast.Assign):
            for target in node.targets:
                if isinstance(target, ast.Tuple) and isinstance(node.value, ast.Tuple):
                    found += [part for spot, part in zip(target.elts, node.value.elts) if ast.unparse(spot) == name]
                elif isinstance(target, ast.Name) and target.id == name:
                    found.append(node.value)
                elif name in [part.id for part in ast.walk(target) if isinstance(part, ast.Name)
                              and isinstance(part.ctx, ast.Store)]:
                    found.append(None)
        elif isinstance(node, (ast.For, ast.comprehension)):
            found += [None for part in ast.walk(node.target) if isinstance(part, ast.Name) and part.id == name]
        elif isinstance(node, (ast.With, ast.ExceptHandler, ast.NamedExpr)) and name in [part.id for part in told]:
            found.append(None)
    return found


def is_new(value):
    """Whether an expression surely is a new list, dict or set."""
    if isinstance(value, LITERALS):
        return True
    if isinstance(value, ast.Call) and isinstance(value.func, ast.Name):
        return value.func.id in MAKING
    if isinstance(value, ast.Call) and isinstance(value.func, ast.Attribute):
        return value.func.attr == "copy"
    if isinstance(value, ast.BinOp) and isinstance(value.op, ast.Mult):
        return isinstance(value.left, ast.List)
    return isinstance(value, ast.Subscript) and isinstance(value.slice, ast.Slice)


def is_own_list(function, name):
    values = assigned_to(function, name)
    return values != [] and all(value is not None and is_new(value) for value in values)


def holds_own_lists(function, name):
    """Whether all items of a local variable are new, too, as far as they are put in by `found[k] = ..`."""
    if not is_own_list(function, name) or any(ast.unparse(value) not in ("{}", "[]") for value in assigned_to(function,
        name)):
        return False
    put = [node.value for node in body_of(function) if isinstance(node, ast.Assign) for target in node.targets
           if isinstance(target, ast.Subscript) and ast.unparse(target.value) == name]
    return put != [] and all(is_new(value) for value in put)


def is_created(function, spot):
    """Whether a list or dict that is changed is one that the function has created."""
    if isinstance(spot, ast.Name):
        return is_own_list(function, spot.id)
    if isinstance(spot, ast.Subscript) and isinstance(spot.value, ast.Name):
        return holds_own_lists(function, spot.value.id)
    # found.setdefault(k, []).append(x)
    return (isinstance(spot, ast.Call) and isinstance(spot.func, ast.Attribute) and spot.func.attr == "setdefault"
            and isinstance(spot.func.value, ast.Name) and is_own_list(function, spot.func.value.id)
            and is_new(spot.args[1]))


class Code:
    """The functions, methods and classes of a package, by their names."""

    def __init__(self, trees):
        self.functions, self.classes, self.methods, self.imports = {}, {}, {}, {}
        for module, tree in trees.items():
            for node in tree.body:
                if isinstance(node, ast.FunctionDef):
                    self.functions[module, node.name] = node
                elif isinstance(node, ast.ClassDef):
                    self.classes[module, node.name] = node
                    for method in [part for part in node.body if isinstance(part, ast.FunctionDef)]:
                        self.methods.setdefault(method.name, []).append((module, node, method))
                elif isinstance(node, ast.ImportFrom):
                    for alias in node.names:
                        self.imports[module, alias.name] = (node.module.split(".")[-1], alias.name)

    def named(self, module, name):
        return self.imports.get((module, name), (module, name))

    def roots(self):
        """The operators and properties, and what is held to the same rule: rows (module, name of the class, node)."""
        for told in self.methods.values():
            for module, box, method in told:
                words = [ast.unparse(word) for word in method.decorator_list]
                if method.name in HELD or "property" in words:
                    yield module, box.name, method

    def faults(self):
        """All places where something that an operator calls does what an operator may not do."""
        found = {}
        for module, label, method in self.roots():
            met = {}
            waiting = [(module, method, label, True)]
            while waiting:
                where, node, told, first = waiting.pop()
                if id(node) in met:
                    continue
                met[id(node)] = True
                faults, called = self.look_at(where, node)
                for line, why in faults:
                    found[f"{where}:{line} {told}.{node.name} ({why}), from {label}.{method.name}"] = True
                waiting.extend(called)
        return sorted(found)

    def look_at(self, module, function):
        faults = []
        called = []
        for node in body_of(function):
            line = getattr(node, "lineno", 0)
            if isinstance(node, BARRED):
                faults.append((line, "it does what no operator does"))
            elif isinstance(node, (ast.Attribute, ast.Subscript)) and not isinstance(node.ctx, ast.Load):
                if isinstance(node, ast.Attribute) and not self.makes_itself(function, node):
                    faults.append((line, "it assigns an attribute"))
                if isinstance(node, ast.Subscript) and not is_created(function, node.value):
                    faults.append((line, "it changes what it has not created"))
            elif isinstance(node, ast.AugAssign):
                plain = isinstance(node.target, ast.Name) and isinstance(node.value, ast.Constant)
                if not plain or not isinstance(node.value.value, int):
                    faults.append((line, "it adds in place"))
            elif isinstance(node, ast.Call):
                fault, more = self.look_at_call(module, function, node)
                faults += [(line, fault)] if fault else []
                called += more
        return faults, called

    def makes_itself(self, function, node):
        return function.name == "__init__" and isinstance(node.value,
                                                          ast.Name) and node.value.id == function.args.args[0].arg

    def look_at_call(self, module, function, node):
        """Why a call may not stand here, or None; and what it calls."""
        if isinstance(node.func, ast.Name):
            name = node.func.id
            if name in local_names(function):
                return "it calls what it is passed", []
            where = self.named(module, name)
            if where in self.functions:
                return None, [(where[0], self.functions[where], where[0], False)]
            if where in self.classes:
                return None, [(where[0], part, name, False) for part in self.classes[where].body
                              if isinstance(part, ast.FunctionDef) and part.name == "__init__"]
            return None, []
        if not isinstance(node.func, ast.Attribute):
            return "it calls what it holds", []
        name = node.func.attr
        if name == "__init__":
            return None, []
        own = self.methods.get(name, [])
        if name in CHANGING:
            return None if is_created(function, node.func.value) else "it changes what it has not created", []
        # Methods count by their names: with two of one name, a harmless one can stand for one that is not.
        if len(own) > 1:
            return f"it calls {name}, which is a method of {', '.join(sorted(box.name for _, box, _ in own))}", []
        # Where a class has an attribute of this name, it may be that what is held is called.
        if any(name in attributes for attributes in self.attributes()):
            return "it calls what it holds", []
        return None, [(where, method, box.name, False) for where, box, method in own]

    def attributes(self):
        for (_, _), box in self.classes.items():
            yield {node.attr for node in ast.walk(box) if isinstance(node, ast.Attribute) and isinstance(node.ctx,
                ast.Store)}


def faults_of(text, **others):
    """The faults of a module `main`, which may import from others, without the lines where they are."""
    texts = {"main": text, **others}
    code = Code({name: ast.parse(textwrap.dedent(told)) for name, told in texts.items()})
    return sorted({fault.partition("(")[2].rpartition(")")[0] for fault in code.faults()})


NOT_CREATED = ["it changes what it has not created"]


class OperatorsTest(unittest.TestCase):
    def test_the_package(self):
        code = Code({path.stem: ast.parse(path.read_text(encoding="utf-8")) for path in sorted(PACKAGE.glob("*.py"))})
        self.assertGreater(len(list(code.roots())), 30)
        self.assertEqual(code.faults(), [])

    def assert_body(self, body, faults):
        """Tells the faults of an operator that calls a function with this body."""
        text = "class Box:\n    def __contains__(self, x):\n        return low(self, x)\ndef low(box, x):\n"
        self.assertEqual(faults_of(text + textwrap.indent(textwrap.dedent(body), "    ")), faults, body)

    def test_what_may_be_changed(self):
        for body in ("found = []\nfound.append(x)", "found = {}\nfound[x] = 1", "found = [*x, 1]\nfound[0] = 2",
                     "found = sorted(x)\nfound.reverse()", "found = {}\nfound[x] = []\nfound[x].append(1)",
                     "found = {}\nfound.setdefault(x, []).append(1)", "many = 0\nmany += 1", "found = x[:]\nfound.pop()",
                     "found = [0] * 3\nfound[x] = 1", "found = {k: 1 for k in x}\ndel found[0]", "return [k for k in x]"):
            self.assert_body(body, [])

    def test_what_may_not(self):
        for body in ("x.append(1)", "x[0] = 1", "box.rows.append(x)", "box.rows[0].append(x)", "found = x\nfound.append(1)",
                     "found = []\nfound = x\nfound.append(1)", "for row in x:\n    row.append(1)", "del x[0]",
                     "found = {}\nfound[0] = x\nfound[0].append(1)", "found, rest = x\nfound.append(1)",
                     "found = [x]\nfound[0].append(1)", "box.rows.setdefault(x, []).append(1)"):
            self.assert_body(body, NOT_CREATED)
        self.assert_body("box.many = 1", ["it assigns an attribute"])
        self.assert_body("many = 1\nmany += x", ["it adds in place"])
        self.assert_body("return x(1)", ["it calls what it is passed"])
        self.assert_body("return x[0](1)", ["it calls what it holds"])
        self.assert_body("yield x", ["it does what no operator does"])

    def test_what_is_called_further_on(self):
        text = """
            from tinkerhall.low import told
            class Box:
                @property
                def many(self):
                    return {}
            """
        low = "class Low:\n    def __init__(self):\n        self.rows = []\n    def told(self, x):\n        {}\n" \
              "def told(x):\n    return deep(x)\ndef deep(x):\n    {}\n"
        for call, row, inner, faults in (
                ("told(1)", "pass", "return x", []), ("told(1)", "pass", "x.clear()", NOT_CREATED),
                ("told(1)", "x.clear()", "pass", []), ("self.low.told(1)", "x.clear()", "pass", NOT_CREATED),
                ("self.low.told(1)", "self.rows = x", "pass", ["it assigns an attribute"]),
                ("self.rows(1)", "pass", "pass", ["it calls what it holds"]),
                ("self.low.told(1)", "self.told = x", "pass", ["it calls what it holds"])):
            self.assertEqual(faults_of(text.format(call), low=low.format(row, inner)), faults, call)

    def test_methods_of_one_name(self):
        text = """
            class Box:
                def __len__(self):
                    return self.drive.moved(1)
            class Drive:
                def moved(self, x):
                    return x
            """
        self.assertEqual(faults_of(text), [])
        other = "class Work:\n    def moved(self):\n        return 1\n"
        self.assertEqual(faults_of(text, other=other), ["it calls moved, which is a method of Drive, Work"])
