"""What of the rules of the language can be seen at a glance, in every file of the package."""

import ast
import pathlib
import re
import unittest

PACKAGE = pathlib.Path(__file__).resolve().parent.parent / "belowall"

BUILTINS = set("""
len range enumerate zip min max sum abs sorted reversed int str bool list tuple dict set isinstance ord repr any all
divmod ValueError TypeError KeyError IndexError LookupError NotImplemented property True False None
""".split())

LIBRARY = {"itertools": {"product", "combinations", "permutations"}, "heapq": {"heappush", "heappop"}}

METHODS = set("""
append clear copy count endswith extend find get index insert isalnum isalpha isdigit islower isspace isupper items
join keys ljust lower lstrip partition pop remove replace reverse rfind rjust rpartition rsplit rstrip setdefault
split splitlines startswith strip update upper values zfill add discard isdecimal
""".split())

STATEMENTS = (
    ast.Assign, ast.AugAssign, ast.If, ast.While, ast.For, ast.Return, ast.Break, ast.Continue, ast.Pass, ast.Raise,
    ast.Delete, ast.Match, ast.Expr, ast.Try, ast.FunctionDef, ast.ClassDef, ast.ImportFrom,
)

BARRED = (ast.GeneratorExp, ast.Lambda, ast.Yield, ast.YieldFrom, ast.Await, ast.Global, ast.Nonlocal, ast.NamedExpr)

WORDS = r"\b(type|typing|enum|Enum|Flag|Generic|Protocol|ABC|namedtuple|NamedTuple|dataclass|_wall)\b"

DUNDERS = {"__init__", "__eq__", "__len__"}


def files():
    return sorted(PACKAGE.rglob("*.py"))


def trees():
    return [(path, ast.parse(path.read_text(encoding="utf-8"))) for path in files()]


def assigned(tree):
    """Return the names that a file binds, and those that it reads."""
    bound, read = set(), set()
    for node in ast.walk(tree):
        if isinstance(node, ast.Name):
            (read if isinstance(node.ctx, ast.Load) else bound).add(node.id)
        elif isinstance(node, (ast.FunctionDef, ast.ClassDef)):
            bound.add(node.name)
        elif isinstance(node, ast.arg):
            bound.add(node.arg)
        elif isinstance(node, ast.alias):
            bound.add(node.name)
    return bound, read


class LanguageTest(unittest.TestCase):
    def test_files(self):
        self.assertIn("__init__.py", [path.name for path in files()])
        self.assertEqual([path for path in files() if path.parent != PACKAGE], [])
        for path in PACKAGE.iterdir():
            if path.name != "__pycache__":
                self.assertRegex(path.name, r"^[a-z_]+\.py$")

    def test_signs_and_sizes(self):
        for path in files():
            text = path.read_text(encoding="utf-8")
            self.assertRegex(text, r"\A[\n -~]*\n\Z", path)
            rows = text.split("\n")
            self.assertLess(len(rows), 400, path)
            self.assertEqual([row for row in rows if len(row) > 120 or row != row.rstrip()], [], path)
            self.assertIsNone(re.search(WORDS, text), path)

    def test_functions_are_small(self):
        for path, tree in trees():
            for node in ast.walk(tree):
                if isinstance(node, ast.FunctionDef):
                    self.assertLessEqual(node.end_lineno - node.lineno + 1, 40, (path, node.name))
                    self.assertIsNotNone(ast.get_docstring(node) or node.name in DUNDERS or None, (path, node.name))

    def test_statements_and_expressions(self):
        for path, tree in trees():
            for node in ast.walk(tree):
                if isinstance(node, ast.stmt):
                    self.assertIsInstance(node, STATEMENTS, (path, node.lineno))
                self.assertNotIsInstance(node, BARRED, path)
                self.assertNotIsInstance(node, (ast.Div, ast.JoinedStr), path)
                if isinstance(node, ast.Constant):
                    self.assertNotIsInstance(node.value, (float, complex, bytes), path)
                    self.assertNotIn("%", str(node.value), path)

    def test_no_star_in_an_index(self):
        for path, tree in trees():
            indexes = [node for node in ast.walk(tree) if isinstance(node, ast.Subscript)]
            held = [part for index in indexes for part in ast.walk(index.slice)]
            self.assertEqual([part.lineno for part in held if isinstance(part, ast.Starred)], [], path)

    def test_decorators_and_double_underscores(self):
        for path, tree in trees():
            for node in ast.walk(tree):
                if isinstance(node, ast.ClassDef):
                    self.assertEqual(node.decorator_list, [], path)
                if isinstance(node, ast.FunctionDef):
                    self.assertLessEqual({part.id for part in node.decorator_list}, {"property"}, (path, node.name))
                    if node.name.startswith("__"):
                        self.assertIn(node.name, DUNDERS, path)

    def test_imports(self):
        for path, tree in trees():
            for node in ast.walk(tree):
                self.assertNotIsInstance(node, ast.Import, path)
                if isinstance(node, ast.ImportFrom):
                    names = {part.name for part in node.names}
                    self.assertEqual([part.asname for part in node.names if part.asname], [], path)
                    if node.module in LIBRARY:
                        self.assertLessEqual(names, LIBRARY[node.module], path)
                    else:
                        self.assertRegex(node.module, r"^belowall\.[a-z]+$", path)
                        self.assertIn(PACKAGE / (node.module.split(".")[1] + ".py"), files())

    def test_imports_go_one_way(self):
        needs = {}
        for path, tree in trees():
            found = [node.module for node in ast.walk(tree) if isinstance(node, ast.ImportFrom)]
            needs["belowall." + path.stem] = [module for module in found if module.startswith("belowall.")]
        while needs:
            free = [module for module, others in needs.items() if not [other for other in others if other in needs]]
            self.assertTrue(free, needs)
            needs = {module: others for module, others in needs.items() if module not in free}

    def test_names(self):
        for path, tree in trees():
            bound, read = assigned(tree)
            python = set(dir(__builtins__) if not isinstance(__builtins__, dict) else __builtins__)
            self.assertEqual(bound & python, set(), path)
            self.assertLessEqual(read - bound, BUILTINS, path)
            self.assertEqual([name for name in bound if name.startswith("__")
                              and name not in DUNDERS], [], path)

    def test_every_import_is_used(self):
        for path, tree in trees():
            _, read = assigned(tree)
            for node in ast.walk(tree):
                if isinstance(node, ast.ImportFrom):
                    self.assertEqual([part.name for part in node.names if part.name not in read], [], path)

    def test_methods_are_own_or_listed(self):
        own = {node.name for _, tree in trees() for node in ast.walk(tree) if isinstance(node, ast.FunctionDef)}
        for path, tree in trees():
            for node in ast.walk(tree):
                if isinstance(node, ast.Call) and isinstance(node.func, ast.Attribute):
                    self.assertIn(node.func.attr, METHODS | own, (path, node.lineno))

    def test_module_level(self):
        for path, tree in trees():
            for node in tree.body:
                if isinstance(node, ast.Expr):
                    self.assertIsInstance(node.value, ast.Constant, path)
                else:
                    self.assertIsInstance(node, (ast.Assign, ast.FunctionDef, ast.ClassDef, ast.ImportFrom), path)


if __name__ == "__main__":
    unittest.main()
