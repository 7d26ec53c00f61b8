"""The rules of the language subset that can be looked up in the code without running it.

The numbers are those of the rules; what is not looked at here is left to the reader of the code.
"""

import ast
import builtins
import pathlib
import unittest
import warnings

PACKAGE = pathlib.Path(__file__).resolve().parent.parent / "deskcards"
FILES = sorted(path for path in PACKAGE.rglob("*") if "__pycache__" not in path.parts)
LIBRARY = {
    "heapq": {"heappush", "heappop", "heapify", "heapreplace", "heappushpop"},
    "math": {"gcd", "lcm", "isqrt", "comb", "perm", "factorial"},
    "itertools": {"product", "combinations", "permutations"},
}
BUILTINS = set(
    "len range enumerate zip min max sum abs sorted reversed int str bool bytes list tuple dict set frozenset isinstance "
    "ord repr any all divmod Exception ValueError TypeError KeyError IndexError LookupError ZeroDivisionError "
    "ArithmeticError OverflowError RuntimeError NotImplementedError AttributeError StopIteration NotImplemented "
    "iter next map super property staticmethod classmethod".split()
)
METHODS = set(
    "__init__ __eq__ __repr__ __str__ __len__ __enter__ __exit__ __call__ __iter__ __getitem__ __setitem__ __contains__ "
    "__bool__ __lt__ __le__ __gt__ __ge__ __ne__ __add__ __sub__ __mul__".split()
)
BARRED = set("register mro elements open input law version_info with_traceback add_note".split())
WORDS = set(
    "typing typing_extensions enum Enum IntEnum StrEnum Flag IntFlag Generic Protocol ABC ABCMeta namedtuple NamedTuple "
    "TypedDict TYPE_CHECKING abstractmethod type".split()
)
STATEMENTS = (
    ast.Assign, ast.AugAssign, ast.AnnAssign, ast.If, ast.While, ast.For, ast.Return, ast.Break, ast.Continue, ast.Pass,
    ast.Raise, ast.Assert, ast.Delete, ast.Nonlocal, ast.Match, ast.With, ast.Try, ast.Expr, ast.FunctionDef,
    ast.ClassDef, ast.ImportFrom,
)


def trees():
    """Each file of the package with its tree."""
    return [(path.name, ast.parse(path.read_text())) for path in FILES if path.suffix == ".py"]


def names_bound(tree):
    """The names of functions, classes, parameters and variables."""
    for node in ast.walk(tree):
        if isinstance(node, (ast.FunctionDef, ast.ClassDef)):
            yield node.name
        elif isinstance(node, ast.arg):
            yield node.arg
        elif isinstance(node, ast.Name) and isinstance(node.ctx, ast.Store):
            yield node.id


class Language(unittest.TestCase):
    def test_files(self):
        """L1, L10, L14"""
        self.assertTrue(FILES)
        for path in FILES:
            if path.is_dir():
                self.assertTrue((path / "__init__.py").exists(), path)
                continue
            self.assertEqual(path.suffix, ".py", path)
            text = path.read_bytes()
            self.assertTrue(all(32 <= sign < 127 or sign == 10 for sign in text), path)
            lines = text.decode().split("\n")
            self.assertLess(len(lines), 400, path)
            self.assertLessEqual(max(len(line) for line in lines), 120, path)

    def test_no_warnings(self):
        """L27"""
        for path in FILES:
            with warnings.catch_warnings():
                warnings.simplefilter("error")
                compile(path.read_text(), str(path), "exec")

    def test_functions_are_short(self):
        """L10"""
        for name, tree in trees():
            for node in ast.walk(tree):
                if isinstance(node, ast.FunctionDef):
                    self.assertLessEqual(node.end_lineno - node.lineno + 1, 40, (name, node.name))

    def test_statements(self):
        """L3, L6"""
        for name, tree in trees():
            for node in ast.walk(tree):
                if isinstance(node, ast.stmt):
                    self.assertIsInstance(node, STATEMENTS, (name, node.lineno))
            for node in tree.body:
                self.assertIsInstance(node, (ast.Expr, ast.ImportFrom, ast.FunctionDef, ast.ClassDef, ast.Assign), name)

    def test_imports(self):
        """L2, L16"""
        defined = {
            f"deskcards.{name[:-3]}": {
                target.id if isinstance(node, ast.Assign) else node.name
                for node in tree.body
                if isinstance(node, (ast.FunctionDef, ast.ClassDef, ast.Assign))
                for target in (node.targets if isinstance(node, ast.Assign) else [None])
            }
            for name, tree in trees()
        }
        for name, tree in trees():
            for node in ast.walk(tree):
                if isinstance(node, ast.ImportFrom):
                    self.assertEqual(node.level, 0, name)
                    self.assertIn(node, tree.body, name)
                    for alias in node.names:
                        known = {**defined, **LIBRARY}[node.module]
                        self.assertIn(alias.name, known, (name, node.lineno))

    def test_builtins(self):
        """L8, L15"""
        for name, tree in trees():
            bound = set(names_bound(tree))
            used = {node.id for node in ast.walk(tree) if isinstance(node, ast.Name) and isinstance(node.ctx, ast.Load)}
            self.assertLessEqual({each for each in used if hasattr(builtins, each)}, BUILTINS, name)
            self.assertFalse([each for each in bound if hasattr(builtins, each) and each not in METHODS], name)

    def test_names(self):
        """L5, L12, L17"""
        for name, tree in trees():
            for node in ast.walk(tree):
                if isinstance(node, ast.FunctionDef) and node.name.startswith("__"):
                    self.assertIn(node.name, METHODS, name)
                if isinstance(node, ast.Attribute):
                    self.assertNotIn(node.attr, BARRED, (name, node.lineno))
            self.assertFalse(BARRED & set(names_bound(tree)), name)
            for node in ast.walk(tree):
                words = set()
                if isinstance(node, ast.Name):
                    words = {node.id}
                if isinstance(node, ast.Constant) and isinstance(node.value, str) and "\n" not in node.value:
                    words = set(node.value.split())
                self.assertFalse(words & WORDS, name)

    def test_strings(self):
        """L27"""
        for name, tree in trees():
            for node in ast.walk(tree):
                if isinstance(node, ast.Constant) and isinstance(node.value, str):
                    self.assertNotIn("%", node.value, name)
                if isinstance(node, ast.Constant):
                    self.assertNotIsInstance(node.value, (float, complex), name)
                if isinstance(node, ast.BinOp):
                    self.assertNotIsInstance(node.op, (ast.Div, ast.MatMult), name)

    def test_decorators(self):
        """L4, L5"""
        for name, tree in trees():
            for node in ast.walk(tree):
                if isinstance(node, ast.ClassDef):
                    self.assertEqual(node.decorator_list, [], name)
                if isinstance(node, ast.FunctionDef):
                    found = [ast.unparse(each) for each in node.decorator_list]
                    self.assertLessEqual(len(found), 1, name)
                    for each in found:
                        known = each in ("property", "staticmethod", "classmethod") or each.endswith(".setter")
                        self.assertTrue(known, (name, each))

    def test_is_stands_beside_none_and_bools(self):
        """L20"""
        for name, tree in trees():
            for node in ast.walk(tree):
                if isinstance(node, ast.Compare):
                    for sign, right in zip(node.ops, node.comparators):
                        if isinstance(sign, (ast.Is, ast.IsNot)):
                            self.assertIsInstance(right, ast.Constant, (name, node.lineno))
                            self.assertIn(right.value, (None, True, False), (name, node.lineno))

    def test_lists_instead_of_generators_and_sets(self):
        """L7, L23, L24: beside classes with == there are no generator expressions, and sets are not kept in objects"""
        for name, tree in trees():
            for node in ast.walk(tree):
                self.assertNotIsInstance(node, (ast.GeneratorExp, ast.Yield, ast.YieldFrom), name)
                if isinstance(node, ast.Assign) and isinstance(node.targets[0], ast.Attribute):
                    made = node.value
                    self.assertNotIsInstance(made, (ast.Set, ast.SetComp), (name, node.lineno))
                    if isinstance(made, ast.Call) and isinstance(made.func, ast.Name):
                        self.assertNotIn(made.func.id, ("set", "frozenset"), (name, node.lineno))

    def test_own_errors_are_caught(self):
        """L19"""
        for name, tree in trees():
            for node in ast.walk(tree):
                if isinstance(node, ast.ExceptHandler):
                    self.assertIsInstance(node.type, ast.Name, (name, node.lineno))
                    self.assertTrue(node.type.id.startswith("Invalid"), (name, node.lineno))
                if isinstance(node, ast.Raise):
                    self.assertIsInstance(node.exc, ast.Call, (name, node.lineno))

    def test_no_lists_in_module_tables(self):
        """L15"""
        for name, tree in trees():
            for node in tree.body:
                if isinstance(node, ast.Assign):
                    inner = [each for each in ast.walk(node.value) if each is not node.value]
                    self.assertFalse([each for each in inner if isinstance(each, (ast.List, ast.Dict, ast.Set))], name)

    def test_tools_are_barred_from_iteration(self):
        """L5: a class with an index has an __iter__"""
        for name, tree in trees():
            for node in ast.walk(tree):
                if isinstance(node, ast.ClassDef):
                    methods = [each.name for each in node.body if isinstance(each, ast.FunctionDef)]
                    self.assertEqual(len(methods), len(set(methods)) + sum(
                        1 for each in node.body if isinstance(each, ast.FunctionDef)
                        and any(ast.unparse(mark).endswith(".setter") for mark in each.decorator_list)
                    ), name)
                    if "__getitem__" in methods:
                        self.assertIn("__iter__", methods, name)


if __name__ == "__main__":
    unittest.main()
