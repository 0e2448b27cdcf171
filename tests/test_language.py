"""The rules of the language that a program can check: sizes of files and functions, names, imports, statements."""

import ast
import builtins
import os
import re
import unittest

FOLDER = os.path.join(os.path.dirname(os.path.dirname(os.path.abspath(__file__))), "tagblocks")
BUILTINS = {"len", "range", "enumerate", "zip", "min", "max", "sum", "abs", "sorted", "reversed", "int", "str", "bool",
            "list", "tuple", "dict", "isinstance", "any", "all", "divmod", "super", "map", "ValueError", "TypeError"}
BARRED = {"register", "mro", "elements", "open", "input", "law", "version_info", "with_traceback", "add_note"}
BARRED_WORDS = r"\b(type|typing|enum|Enum|Flag|Generic|Protocol|ABC|namedtuple|metaclass|Meta)\b|dataclass|overload"
METHODS = set("""append clear copy count endswith extend find get index insert isalnum isalpha isdigit islower isspace
    isupper items join keys ljust lower lstrip partition pop remove replace reverse rfind rjust rpartition rsplit rstrip
    setdefault split splitlines startswith strip update upper values zfill bit_length""".split())
# An attribute may be called like some methods of builtin values (L26), but not so.
NO_ATTRIBUTES = set("""items keys values pop update append clear extend insert remove reverse setdefault sort args encode
    decode hex fromhex format format_map mro as_integer_ratio bit_count conjugate from_bytes is_integer to_bytes bit_length
    real imag numerator denominator""".split())
FREE_ATTRIBUTES = set("count index title find get join lower upper split strip copy add".split())
BUILTIN_NAMES = {name for kind in (str, int, list, dict, set, bytes) for name in dir(kind)}
DUNDERS = {"__init__", "__eq__", "__len__", "__getitem__", "__iter__"}
NODES = (ast.Try, ast.With, ast.AsyncFunctionDef, ast.Yield, ast.YieldFrom, ast.Lambda, ast.GeneratorExp, ast.Set,
         ast.SetComp, ast.Global, ast.Nonlocal, ast.NamedExpr, ast.Match, ast.Div, ast.JoinedStr, ast.Await,
         ast.AnnAssign, ast.Assert)


def files():
    """The files of the package with their texts."""
    for name in sorted(os.listdir(FOLDER)):
        if name != "__pycache__":
            with open(os.path.join(FOLDER, name), encoding="ascii") as file:
                yield name, file.read()


def trees():
    for name, text in files():
        yield name, ast.parse(text)


def targets(node):
    """The names that a node gives a meaning to."""
    if isinstance(node, ast.Name) and isinstance(node.ctx, ast.Store):
        return [node.id]
    if isinstance(node, ast.arg):
        return [node.arg]
    if isinstance(node, (ast.FunctionDef, ast.ClassDef)):
        return [node.name]
    return []


class LanguageTest(unittest.TestCase):
    def test_files(self):
        for name, text in files():
            self.assertRegex(name, r"^[a-z_]+\.py$")
            self.assertLess(text.count("\n"), 400, name)
            for line in text.split("\n"):
                self.assertLessEqual(len(line), 120, (name, line))
                self.assertNotIn("\t", line)
            self.assertIsNone(re.search("[^ -~\n]", text), name)

    def test_sizes_of_functions(self):
        for name, tree in trees():
            for node in ast.walk(tree):
                if isinstance(node, ast.FunctionDef):
                    self.assertLessEqual(node.end_lineno - node.lineno + 1, 40, (name, node.name))

    def test_statements_and_expressions(self):
        for name, tree in trees():
            for node in ast.walk(tree):
                self.assertNotIsInstance(node, NODES, (name, getattr(node, "lineno", None)))
                if isinstance(node, ast.FunctionDef):
                    self.assertEqual(node.decorator_list, [], (name, node.name))
                if isinstance(node, ast.Constant):
                    self.assertNotIsInstance(node.value, (float, complex), name)
                if isinstance(node, ast.BinOp) and isinstance(node.op, ast.Pow):
                    self.assertIsInstance(node.right, ast.Constant, (name, node.lineno))
                if isinstance(node, ast.Call) and getattr(node.func, "id", None) == "reversed":
                    self.assertIsInstance(node.args[0], ast.Call, (name, node.lineno))
                    self.assertIn(node.args[0].func.id, ("list", "tuple", "sorted", "range"), (name, node.lineno))
                if isinstance(node, ast.Compare) and any(isinstance(op, (ast.Is, ast.IsNot)) for op in node.ops):
                    self.assertIn(getattr(node.comparators[0], "value", 0), (None, True, False), (name, node.lineno))

    def test_imports(self):
        seen = {}
        for name, tree in trees():
            for node in ast.walk(tree):
                self.assertNotIsInstance(node, ast.Import, name)
                if isinstance(node, ast.ImportFrom):
                    self.assertTrue(node.module.startswith("tagblocks.") or node.module in ("math", "heapq"), (name, node.module))
                    self.assertEqual([one.asname for one in node.names if one.asname], [])
                    seen.setdefault(name[:-3], []).append(node.module.split(".")[-1])
        for name in seen:
            reached, waiting = set(), list(seen[name])
            while waiting:
                one = waiting.pop()
                self.assertNotEqual(one, name, "imports in a circle")
                if one not in reached:
                    reached.add(one)
                    waiting += seen.get(one, [])

    def test_imported_names_are_used_and_defined_there(self):
        whole = dict(trees())
        for name, tree in whole.items():
            used = {node.id for node in ast.walk(tree) if isinstance(node, ast.Name)}
            for node in tree.body:
                if isinstance(node, ast.ImportFrom):
                    for one in node.names:
                        self.assertIn(one.name, used, (name, one.name))
                        if node.module not in ("math", "heapq"):
                            other = whole[node.module.split(".")[1] + ".py"]
                            defined = [found for row in other.body for part in ast.walk(row) for found in targets(part)]
                            self.assertIn(one.name, defined, (name, one.name))

    def test_names(self):
        everything = set(dir(builtins)) - {"_"}
        for name, tree in trees():
            classes = {node.name for node in tree.body if isinstance(node, ast.ClassDef)}
            imported = {one.name for node in tree.body if isinstance(node, ast.ImportFrom) for one in node.names}
            methods = {node for one in ast.walk(tree) if isinstance(one, ast.ClassDef) for node in one.body}
            for node in ast.walk(tree):
                for found in targets(node):
                    self.assertNotIn(found, BARRED, name)
                    if node not in methods:
                        self.assertNotIn(found, everything, (name, found))
                    if not (isinstance(node, ast.ClassDef)) and node not in methods:
                        self.assertNotIn(found, classes | imported, (name, found))
                if isinstance(node, ast.Name) and isinstance(node.ctx, ast.Load) and node.id in everything:
                    self.assertIn(node.id, BUILTINS, (name, node.lineno))

    def test_methods_and_attributes(self):
        own, attributes = set(), {}
        for name, tree in trees():
            for node in ast.walk(tree):
                if isinstance(node, ast.ClassDef):
                    names = [one.name for one in node.body if isinstance(one, ast.FunctionDef)]
                    own |= set(names)
                    stored = {one.attr for one in ast.walk(node) if isinstance(one, ast.Attribute)
                              and isinstance(one.ctx, ast.Store)}
                    attributes[node.name] = stored
                    self.assertEqual(stored & set(names), set(), node.name)
                    self.assertEqual(len(names), len(set(names)), node.name)
                    for one in names:
                        self.assertTrue(not one.startswith("__") or one in DUNDERS, one)
                    if "__getitem__" in names:
                        self.assertIn("__iter__", names)
        every = set().union(*attributes.values())
        self.assertEqual(every & (NO_ATTRIBUTES | METHODS | BUILTIN_NAMES) - FREE_ATTRIBUTES, set())
        self.assertEqual(own & METHODS, set())
        for name, tree in trees():
            for node in ast.walk(tree):
                if isinstance(node, ast.Attribute) and isinstance(node.ctx, ast.Load):
                    self.assertIn(node.attr, own | every | METHODS | {"__init__"}, (name, node.lineno))

    def test_what_is_stored_on_objects(self):
        """No attribute that is assigned anywhere has a name that attributes may not have."""
        for name, tree in trees():
            for node in ast.walk(tree):
                if isinstance(node, ast.Attribute) and isinstance(node.ctx, (ast.Store, ast.Del)):
                    self.assertNotIn(node.attr, NO_ATTRIBUTES, (name, node.lineno))
                if isinstance(node, ast.Attribute) and node.attr == "sort":
                    self.fail((name, node.lineno))

    def test_attributes_are_set_through_names(self):
        for name, tree in trees():
            for node in ast.walk(tree):
                if isinstance(node, ast.Attribute) and isinstance(node.ctx, ast.Store):
                    self.assertIsInstance(node.value, ast.Name, (name, node.lineno))

    def test_module_level(self):
        bound = {}
        for name, tree in trees():
            for node in tree.body:
                self.assertIsInstance(node, (ast.Expr, ast.ImportFrom, ast.FunctionDef, ast.ClassDef, ast.Assign), name)
                if isinstance(node, ast.Assign):
                    self.assertEqual([one for one in ast.walk(node) if isinstance(one, ast.Starred)], [], (name, node.lineno))
                for found in targets(node) + [one.id for one in getattr(node, "targets", [])]:
                    self.assertNotIn((name, found), bound)
                    bound[name, found] = True

    def test_words(self):
        for name, tree in trees():
            names = [found for node in ast.walk(tree) for found in targets(node)]
            strings = [node.value for node in ast.walk(tree) if isinstance(node, ast.Constant)
                       and isinstance(node.value, str)]
            docs = [ast.get_docstring(node, clean=False) for node in ast.walk(tree)
                    if isinstance(node, (ast.Module, ast.ClassDef, ast.FunctionDef))]
            for text in names + [text for text in strings if text not in docs]:
                self.assertIsNone(re.search(BARRED_WORDS, text), (name, text))
                self.assertNotIn("%", text)

    def test_every_function_says_what_it_is_for(self):
        for name, tree in trees():
            for node in ast.walk(tree):
                if isinstance(node, (ast.Module, ast.ClassDef)):
                    self.assertTrue(ast.get_docstring(node), (name, node))
                if isinstance(node, ast.FunctionDef) and not node.name.startswith("__"):
                    self.assertTrue(ast.get_docstring(node), (name, node.name))


if __name__ == "__main__":
    unittest.main()
