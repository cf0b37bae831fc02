"""Those rules of LANGUAGE.md that are easily checked: sizes, characters, imports, builtins, methods and places."""

import ast
import builtins
import os
import unittest

FOLDER = os.path.join(os.path.dirname(os.path.dirname(os.path.abspath(__file__))), "bymiddles")

BUILTINS = """len range enumerate zip min max sum abs sorted reversed int str bool list tuple dict set isinstance ord repr
any all divmod ValueError""".split()

METHODS = """append clear copy count endswith extend find get index insert isalnum isalpha isdigit islower isspace isupper
items join keys ljust lower lstrip partition pop remove replace reverse rfind rjust rpartition rsplit rstrip setdefault
split splitlines startswith strip update upper values zfill bit_length""".split()

LIBRARY = {"itertools": ["combinations", "permutations", "product"], "math": ["factorial"]}

ITERATORS = ["range", "zip", "enumerate", "reversed", "items", "keys", "values"]

ITERATED_BY = ["list", "tuple", "dict", "sorted", "sum", "any", "all", "enumerate", "zip", "min", "max"]

BARRED = """type typing enum Enum Flag Generic Protocol ABC register mro elements open input law eval exec id globals locals
vars super help dir getattr setattr hasattr""".split()

NODES = (ast.Lambda, ast.GeneratorExp, ast.Yield, ast.YieldFrom, ast.Global, ast.Nonlocal, ast.AsyncFunctionDef,
         ast.With, ast.Div, ast.Set, ast.SetComp, ast.Starred, ast.NamedExpr, ast.Import, ast.Assert)


def files():
    """The names of the files of the package."""
    return sorted(name for name in os.listdir(FOLDER) if name != "__pycache__")


def text_of(name):
    """What stands in a file."""
    with open(os.path.join(FOLDER, name), encoding="utf-8") as file:
        return file.read()


def nodes_of(name):
    """All nodes of a file."""
    return list(ast.walk(ast.parse(text_of(name))))


def defined(tree):
    """The names that a module binds."""
    names = []
    for node in tree.body:
        if isinstance(node, (ast.FunctionDef, ast.ClassDef)):
            names.append(node.name)
        if isinstance(node, ast.Assign):
            names.extend(target.id for target in node.targets)
        if isinstance(node, ast.ImportFrom):
            names.extend(alias.name for alias in node.names)
    return names


def called(node):
    """The name of what a node calls, None if it is no call."""
    if not isinstance(node, ast.Call):
        return None
    return node.func.attr if isinstance(node.func, ast.Attribute) else getattr(node.func, "id", None)


def iterated_at_once(nodes):
    """The ids of the nodes that stand where L23 lets a range, a zip or a view stand."""
    places = []
    for node in nodes:
        if isinstance(node, (ast.For, ast.comprehension)):
            places.append(id(node.iter))
        if called(node) in ITERATED_BY and node.args:
            places.append(id(node.args[0]))
        if called(node) == "len" and called(node.args[0]) in ("range", "items"):
            places.append(id(node.args[0]))
        if called(node) == "reversed" and called(node.args[0]) == "range":
            places.append(id(node.args[0]))
        if isinstance(node, ast.Compare) and isinstance(node.ops[0], (ast.In, ast.NotIn)):
            places.extend(id(other) for other in node.comparators if called(other) in ("range", "keys"))
    return places


class Language(unittest.TestCase):
    def test_files(self):
        self.assertIn("__init__.py", files())
        for name in files():
            self.assertRegex(name, "^[a-z_]+[.]py$")

    def test_sizes_and_characters(self):
        for name in files():
            lines = text_of(name).split("\n")
            self.assertLess(len(lines), 400, name)
            for line in lines:
                self.assertLessEqual(len(line), 120, name)
                self.assertTrue(all(" " <= sign <= "~" for sign in line), (name, line))
            for node in nodes_of(name):
                if isinstance(node, ast.FunctionDef):
                    self.assertLessEqual(node.end_lineno - node.lineno, 39, (name, node.name))
                    self.assertTrue(ast.get_docstring(node) or node.name.startswith("__"), (name, node.name))

    def test_nothing_outside_the_subset(self):
        for name in files():
            for node in nodes_of(name):
                self.assertNotIsInstance(node, NODES, (name, getattr(node, "lineno", None)))
                if isinstance(node, ast.Constant):
                    self.assertNotIsInstance(node.value, (float, complex))
                if isinstance(node, ast.FunctionDef):
                    self.assertEqual(node.decorator_list, [])
                if isinstance(node, ast.Try):
                    # Nothing is caught; what is put back in the end is put back by plain assignments.
                    self.assertEqual(node.handlers + node.orelse, [], name)
                    for row in node.finalbody:
                        self.assertIsInstance(row, ast.Assign)
                        self.assertIsInstance(row.value, (ast.Name, ast.Attribute))

    def test_statements_of_modules(self):
        for name in files():
            for node in ast.parse(text_of(name)).body:
                self.assertIsInstance(node, (ast.Expr, ast.ImportFrom, ast.FunctionDef, ast.ClassDef, ast.Assign))
                if isinstance(node, (ast.Expr, ast.Assign)) and not isinstance(node.value, ast.Constant):
                    self.assertIsInstance(node.value, ast.Dict)
                    for value in node.value.keys + node.value.values:
                        self.assertIsInstance(value, (ast.Constant, ast.Name))

    def test_names(self):
        for name in files():
            bound = defined(ast.parse(text_of(name)))
            self.assertEqual(len(bound), len(set(bound)), name)
            imported = [alias.name for node in nodes_of(name) if isinstance(node, ast.ImportFrom)
                        for alias in node.names]
            for node in nodes_of(name):
                local = node.arg if isinstance(node, ast.arg) else None
                if isinstance(node, ast.Name) and isinstance(node.ctx, ast.Store):
                    local = node.id
                self.assertNotIn(local, imported + BARRED + dir(builtins), name)
                if isinstance(node, ast.Name):
                    self.assertNotIn(node.id, BARRED, name)

    def test_calls(self):
        for name in files():
            own = defined(ast.parse(text_of(name)))
            methods = [row.name for node in nodes_of(name) if isinstance(node, ast.ClassDef) for row in node.body
                       if isinstance(row, ast.FunctionDef)]
            for node in nodes_of(name):
                if isinstance(node, ast.Call) and isinstance(node.func, ast.Name):
                    self.assertIn(node.func.id, own + BUILTINS + ["rule", "action"], (name, node.lineno))
                if isinstance(node, ast.Call) and isinstance(node.func, ast.Attribute):
                    self.assertIn(node.func.attr, METHODS + methods, (name, node.lineno))

    def test_ranges_and_views_are_iterated_at_once(self):
        for name in files():
            nodes = nodes_of(name)
            places = iterated_at_once(nodes)
            for node in nodes:
                if called(node) in ITERATORS:
                    self.assertIn(id(node), places, (name, node.lineno))

    def test_no_name_is_a_method_and_an_attribute(self):
        for name in files():
            for node in nodes_of(name):
                if isinstance(node, ast.ClassDef):
                    methods = [row.name for row in node.body if isinstance(row, ast.FunctionDef)]
                    self.assertEqual(len(methods), len(set(methods)), name)
                    for inner in ast.walk(node):
                        if isinstance(inner, ast.Attribute) and isinstance(inner.ctx, ast.Store):
                            self.assertNotIn(inner.attr, methods, name)

    def test_imports(self):
        homes = {}
        for name in files():
            homes["bymiddles." + name[:-3]] = ast.parse(text_of(name))
        for name in files():
            for node in nodes_of(name):
                if isinstance(node, ast.ImportFrom):
                    self.assertEqual(node.level, 0)
                    for alias in node.names:
                        self.assertIsNone(alias.asname)
                        if node.module in LIBRARY:
                            self.assertIn(alias.name, LIBRARY[node.module])
                        else:
                            own = [part.name for part in homes[node.module].body if hasattr(part, "name")]
                            self.assertIn(alias.name, own)

    def test_imports_make_no_circle(self):
        needs = {}
        for name in files():
            needs[name[:-3]] = [node.module.split(".")[1] for node in nodes_of(name)
                                if isinstance(node, ast.ImportFrom) and node.module.startswith("bymiddles.")]
        while needs:
            free = [name for name in needs if not [other for other in needs[name] if other in needs]]
            self.assertTrue(free, sorted(needs))
            needs = {name: needs[name] for name in needs if name not in free}

    def test_unused_imports(self):
        for name in files():
            used = [node.id for node in nodes_of(name) if isinstance(node, ast.Name)]
            for node in nodes_of(name):
                if isinstance(node, ast.ImportFrom):
                    for alias in node.names:
                        self.assertIn(alias.name, used, name)
