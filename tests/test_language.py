"""A part of the rules of LANGUAGE.md, as far as a short test can see them."""

import ast
import builtins
import pathlib
import unittest
import warnings

PACKAGE = pathlib.Path(__file__).resolve().parent.parent / "mathboxes"

BUILTINS = set(
    "len range enumerate zip min max sum abs sorted reversed int str bool bytes list tuple dict set frozenset isinstance "
    "ord repr any all divmod pow type Exception ValueError TypeError KeyError IndexError LookupError ZeroDivisionError "
    "ArithmeticError OverflowError RuntimeError NotImplementedError AttributeError StopIteration NotImplemented".split()
)
METHODS = set(
    "append clear copy count endswith extend find get index insert isalnum isalpha isdigit islower isspace isupper items isascii "
    "join keys ljust lower lstrip partition pop remove replace reverse rfind rjust rpartition rsplit rstrip setdefault "
    "split splitlines startswith strip update upper values zfill bit_length".split()
)
LEVEL = (ast.FunctionDef, ast.ClassDef, ast.ImportFrom, ast.Assign, ast.Expr)
BARRED = (
    ast.GeneratorExp, ast.AsyncFunctionDef, ast.Global, ast.Yield, ast.YieldFrom, ast.Try, ast.With, ast.Import,
    ast.Mod, ast.Div, ast.Lambda, ast.NamedExpr,
)


def files():
    return sorted(path for path in PACKAGE.rglob("*") if "__pycache__" not in path.parts)


def trees():
    return [(path.name, ast.parse(path.read_text(encoding="utf-8"))) for path in files()]


def bound_names(tree):
    for node in ast.walk(tree):
        if isinstance(node, (ast.FunctionDef, ast.ClassDef)):
            yield node.name
        elif isinstance(node, ast.Name) and isinstance(node.ctx, ast.Store):
            yield node.id
        elif isinstance(node, ast.arg):
            yield node.arg


class Language(unittest.TestCase):

    def test_files(self):
        for path in files():
            self.assertRegex(path.name, r"\A[a-z0-9_]+\.py\Z")
            text = path.read_text(encoding="utf-8")
            lines = text.split("\n")
            self.assertLess(len(lines), 400, path.name)
            for at, line in enumerate(lines, start=1):
                self.assertLessEqual(len(line), 120, (path.name, at))
                self.assertTrue(all(" " <= sign <= "~" for sign in line), (path.name, at))

    def test_no_warnings(self):
        with warnings.catch_warnings():
            warnings.simplefilter("error")
            for path in files():
                compile(path.read_text(encoding="utf-8"), str(path), "exec")

    def test_module_level(self):
        for name, tree in trees():
            for node in tree.body:
                self.assertIsInstance(node, LEVEL, name)
                if isinstance(node, ast.ImportFrom):
                    if node.module == "math":
                        self.assertTrue({alias.name for alias in node.names} <= {"gcd", "isqrt", "lcm"}, name)
                    else:
                        self.assertTrue(node.module.startswith("mathboxes."), name)
                    self.assertTrue(all(alias.asname is None for alias in node.names), name)
            self.assertTrue(ast.get_docstring(tree), name)

    def test_statements_and_expressions(self):
        for name, tree in trees():
            for node in ast.walk(tree):
                self.assertNotIsInstance(node, BARRED, (name, getattr(node, "lineno", 0)))
                if isinstance(node, ast.FunctionDef):
                    self.assertLessEqual(node.end_lineno - node.lineno + 1, 40, (name, node.name))
                    self.assertEqual(node.decorator_list, [], (name, node.name))

    def test_names(self):
        for name, tree in trees():
            bound = list(bound_names(tree))
            methods = {
                node.name for kind in ast.walk(tree) if isinstance(kind, ast.ClassDef) for node in kind.body
                if isinstance(node, ast.FunctionDef)
            }
            for word in bound:
                # A doctest that ran before leaves a builtin called _.
                self.assertTrue(word in methods or word == "_" or not hasattr(builtins, word), (name, word))
            imported = {
                alias.name for node in tree.body if isinstance(node, ast.ImportFrom) for alias in node.names
            }
            for node in ast.walk(tree):
                if isinstance(node, ast.Name) and isinstance(node.ctx, ast.Load):
                    self.assertIn(node.id, BUILTINS | set(bound) | imported, (name, node.lineno))

    def test_imports_and_classes_keep_their_names(self):
        for name, tree in trees():
            taken = {alias.name for node in tree.body if isinstance(node, ast.ImportFrom) for alias in node.names}
            taken = taken | {node.name for node in tree.body if isinstance(node, ast.ClassDef)}
            for function in ast.walk(tree):
                if isinstance(function, ast.FunctionDef):
                    local = {node.arg for node in ast.walk(function) if isinstance(node, ast.arg)}
                    local = local | {
                        node.id for node in ast.walk(function)
                        if isinstance(node, ast.Name) and isinstance(node.ctx, ast.Store)
                    }
                    self.assertEqual(local & taken, set(), (name, function.name))

    def test_imports_are_used(self):
        for name, tree in trees():
            used = {node.id for node in ast.walk(tree) if isinstance(node, ast.Name)}
            taken = {alias.name for node in tree.body if isinstance(node, ast.ImportFrom) for alias in node.names}
            self.assertEqual(taken - used, set(), name)

    def test_no_circles(self):
        needs = {
            "mathboxes." + name[:-3]: {
                node.module for node in tree.body if isinstance(node, ast.ImportFrom) and node.module != "math"
            }
            for name, tree in trees()
        }
        done = set()
        while len(done) < len(needs):
            ready = {name for name in needs if name not in done and needs[name] <= done}
            self.assertTrue(ready, sorted(set(needs) - done))
            done = done | ready

    def test_methods(self):
        own = {node.name for _, tree in trees() for node in ast.walk(tree) if isinstance(node, ast.FunctionDef)}
        for name, tree in trees():
            for node in ast.walk(tree):
                if isinstance(node, ast.Call) and isinstance(node.func, ast.Attribute):
                    self.assertIn(node.func.attr, METHODS | own, (name, node.lineno))


if __name__ == "__main__":
    unittest.main()
