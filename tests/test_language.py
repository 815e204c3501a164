"""Some rules of LANGUAGE.md that the text of the package can be asked about."""

import ast
import builtins
import unittest
from pathlib import Path

PACKAGE = Path(__file__).resolve().parent.parent / "weavelines"
FILES = sorted(PACKAGE.glob("*.py"))

BUILTINS = set("""
    len range enumerate zip min max sum abs sorted reversed int str bool bytes list tuple dict set isinstance ord repr
    any all divmod Exception ValueError TypeError KeyError IndexError LookupError ZeroDivisionError property
    staticmethod classmethod map iter super object
""".split())

METHODS = set("""
    append clear copy count endswith extend find get index insert isalnum isalpha isdigit islower isspace isupper items
    join keys ljust lower lstrip partition pop remove replace reverse rfind rjust rpartition rsplit rstrip setdefault
    split splitlines startswith strip update upper values zfill bit_length removeprefix removesuffix rindex isascii
    isdecimal isnumeric add discard __init__ sort
""".split())

BARRED = set("""
    register mro elements open input law version_info with_traceback add_note attrgetter breakpoint compile copyright
    credits delattr dir eval exec exit gc globals help id importlib license locals methodcaller os quit type vars
    typing enum namedtuple dataclass global_ chr float print
""".split())

STATEMENTS = (ast.AsyncFunctionDef, ast.AsyncFor, ast.AsyncWith, ast.Await, ast.Import, ast.Global, ast.Div,
              ast.MatMult, ast.TryStar)

LIBRARY = {"heapq": {"heappush", "heappop", "heapify"}, "math": {"gcd", "lcm", "isqrt", "comb", "factorial"},
           "itertools": {"product", "combinations", "permutations", "chain", "pairwise"},
           "collections": {"defaultdict", "deque"}}


def nodes(kind):
    for path in FILES:
        for node in ast.walk(ast.parse(path.read_text())):
            if isinstance(node, kind):
                yield path.name, node


def imports_of(path):
    tree = ast.parse(path.read_text())
    return [node for node in ast.walk(tree) if isinstance(node, ast.ImportFrom)]


class Files(unittest.TestCase):
    def test_nothing_else(self):
        for path in PACKAGE.iterdir():
            self.assertTrue(path in FILES or path.name == "__pycache__", path)

    def test_sizes_and_characters(self):
        for path in FILES:
            lines = path.read_text().split("\n")
            self.assertLess(len(lines), 400, path)
            for number, line in enumerate(lines, 1):
                with self.subTest(path=path.name, line=number):
                    self.assertLessEqual(len(line), 120)
                    self.assertTrue(all(" " <= sign <= "~" for sign in line))
        for name, node in nodes(ast.FunctionDef):
            self.assertLessEqual(node.end_lineno - node.lineno + 1, 40, (name, node.name))

    def test_imports(self):
        for path in FILES:
            for node in imports_of(path):
                with self.subTest(path=path.name, line=node.lineno):
                    self.assertEqual(node.level, 0)
                    names = [alias.name for alias in node.names]
                    self.assertTrue(all(alias.asname is None for alias in node.names))
                    if node.module in LIBRARY:
                        self.assertLessEqual(set(names), LIBRARY[node.module])
                    else:
                        package, _, module = node.module.partition(".")
                        self.assertEqual(package, "weavelines")
                        tree = ast.parse((PACKAGE / (module + ".py")).read_text())
                        self.assertLessEqual(set(names), self.bound(tree))

    def bound(self, tree):
        """The names that a file itself defines, imports left out."""
        names = set()
        for node in tree.body:
            if isinstance(node, (ast.FunctionDef, ast.ClassDef)):
                names.add(node.name)
            elif isinstance(node, ast.Assign):
                names.update(target.id for target in node.targets)
        return names

    def test_no_circles(self):
        left = {path.stem: {node.module.partition(".")[2] for node in imports_of(path)
                            if node.module.startswith("weavelines.")} for path in FILES}
        while left:
            free = [name for name in left if not left[name] & set(left)]
            self.assertTrue(free, left)
            for name in free:
                del left[name]


class Names(unittest.TestCase):
    def test_statements(self):
        for name, node in nodes(STATEMENTS):
            self.fail((name, node))

    def test_module_level(self):
        for path in FILES:
            for node in ast.parse(path.read_text()).body:
                docstring = isinstance(node, ast.Expr) and isinstance(node.value, ast.Constant)
                plain = isinstance(node, (ast.ImportFrom, ast.FunctionDef, ast.ClassDef, ast.Assign))
                self.assertTrue(docstring or plain, (path.name, node.lineno))

    def test_builtins(self):
        for name, node in nodes(ast.Name):
            if hasattr(builtins, node.id):
                self.assertIn(node.id, BUILTINS, (name, node.lineno))
                self.assertIsInstance(node.ctx, ast.Load, (name, node.lineno))
            self.assertNotIn(node.id, BARRED, (name, node.lineno))
        for name, node in nodes((ast.FunctionDef, ast.ClassDef)):
            self.assertNotIn(node.name, BARRED | set(dir(builtins)), (name, node.lineno))
        for name, node in nodes(ast.arg):
            self.assertNotIn(node.arg, BARRED | set(dir(builtins)), (name, node.lineno))

    def test_methods(self):
        own = {node.name for _, node in nodes(ast.FunctionDef)}
        for name, node in nodes(ast.Call):
            if isinstance(node.func, ast.Attribute):
                self.assertIn(node.func.attr, METHODS | own, (name, node.lineno))

    def test_classes(self):
        for name, node in nodes(ast.ClassDef):
            stored = {told.attr for told in ast.walk(node)
                      if isinstance(told, ast.Attribute) and isinstance(told.ctx, ast.Store)}
            for part in node.body:
                docstring = isinstance(part, ast.Expr) and isinstance(part.value, ast.Constant)
                self.assertTrue(docstring or isinstance(part, ast.FunctionDef), (name, part.lineno))
                if isinstance(part, ast.FunctionDef):
                    self.assertNotIn(part.name, stored | METHODS - {"__init__"}, (name, part.lineno))

    def test_decorators(self):
        for name, node in nodes(ast.FunctionDef):
            self.assertLessEqual([told.id for told in node.decorator_list], ["property"], (name, node.lineno))
            if node.decorator_list:
                self.assertEqual([told.arg for told in node.args.args], ["self"])
                self.assertIsInstance(node.body[-1], ast.Return)
                for told in ast.walk(node):
                    if isinstance(told, (ast.Attribute, ast.Subscript)):
                        self.assertIsInstance(told.ctx, ast.Load, (name, told.lineno))

    def test_constants(self):
        for name, node in nodes(ast.Constant):
            self.assertNotIsInstance(node.value, (float, complex), (name, node.lineno))
            if isinstance(node.value, str):
                self.assertNotIn("%", node.value, (name, node.lineno))

    def test_is(self):
        for name, node in nodes(ast.Compare):
            for sign, right in zip(node.ops, node.comparators):
                if isinstance(sign, (ast.Is, ast.IsNot)):
                    self.assertIsInstance(right, ast.Constant, (name, node.lineno))


if __name__ == "__main__":
    unittest.main()
