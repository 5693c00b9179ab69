"""The rules of LANGUAGE.md that can be seen file by file, checked in part."""

import ast
import builtins
import os
import unittest

TOP = os.path.dirname(os.path.dirname(os.path.abspath(__file__)))
PACKAGE = os.path.join(TOP, "heirturns")

BUILTINS = set(
    "len range enumerate zip min max sum abs sorted reversed int str bool list tuple dict set isinstance ord repr"
    " any all divmod property staticmethod ValueError TypeError KeyError NotImplemented".split()
)
METHODS = set(
    "append clear copy count endswith extend find get index insert isalnum isalpha isdigit islower isspace isupper"
    " items join keys ljust lower lstrip partition pop remove replace reverse rfind rjust rpartition rsplit rstrip"
    " setdefault split splitlines startswith strip update upper values zfill bit_length add discard sort".split()
)
DUNDERS = set("__init__ __eq__ __len__ __iter__ __getitem__ __contains__ __add__".split())
STATEMENTS = (
    ast.Assign, ast.AugAssign, ast.If, ast.While, ast.For, ast.Return, ast.Break, ast.Continue, ast.Pass, ast.Raise,
    ast.Delete, ast.Expr, ast.FunctionDef, ast.ClassDef, ast.ImportFrom, ast.Try,
)
BARRED = (
    ast.Global, ast.Nonlocal, ast.AsyncFunctionDef, ast.Await, ast.GeneratorExp, ast.Yield, ast.YieldFrom, ast.Import,
    ast.With, ast.Div, ast.MatMult, ast.NamedExpr,
)
WORDS = set(
    "type typing enum Enum IntEnum Flag Generic Protocol ABC namedtuple NamedTuple abstractmethod register mro"
    " elements open input law version_info with_traceback add_note".split()
)


def files():
    return sorted(name for name in os.listdir(PACKAGE) if name != "__pycache__")


def source(name):
    with open(os.path.join(PACKAGE, name), encoding="utf-8") as file:
        return file.read()


def nodes(name):
    return list(ast.walk(ast.parse(source(name))))


def imports(name):
    """The files of the package that this file imports from."""
    return [node.module.split(".")[1] + ".py" for node in nodes(name)
            if isinstance(node, ast.ImportFrom) and node.module.startswith("heirturns.")]


def reached(name):
    """All files that this file imports from, and those that they import from."""
    found, waiting = [], imports(name)
    while waiting:
        other = waiting.pop()
        if other not in found:
            found.append(other)
            waiting += imports(other)
    return found


class FormTest(unittest.TestCase):
    def test_files(self):
        self.assertIn("__init__.py", files())
        for name in files():
            self.assertRegex(name, r"\A[a-z_]+\.py\Z")

    def test_characters_and_sizes(self):
        for name in files():
            text = source(name)
            self.assertTrue(all(sign == "\n" or " " <= sign <= "~" for sign in text), name)
            self.assertLessEqual(text.count("\n"), 399, name)
            self.assertLessEqual(max(len(line) for line in text.split("\n")), 120, name)
            for node in nodes(name):
                if isinstance(node, ast.FunctionDef):
                    self.assertLessEqual(node.end_lineno - node.lineno + 1, 40, node.name)

    def test_imports(self):
        for name in files():
            for node in nodes(name):
                if isinstance(node, ast.ImportFrom):
                    self.assertEqual(node.level, 0, name)
                    self.assertRegex(node.module, r"\Aheirturns\.|\A(heapq|math|itertools)\Z")
                    self.assertTrue(all(own.asname is None and own.name != "*" for own in node.names), name)
            self.assertNotIn(name, reached(name))

    def test_imports_are_used(self):
        for name in files():
            used = {node.id for node in nodes(name) if isinstance(node, ast.Name)}
            for node in nodes(name):
                if isinstance(node, ast.ImportFrom):
                    self.assertEqual([own.name for own in node.names if own.name not in used], [], name)

    def test_module_level(self):
        for name in files():
            for node in ast.parse(source(name)).body:
                is_docstring = isinstance(node, ast.Expr) and isinstance(node.value, ast.Constant)
                allowed = (ast.ImportFrom, ast.FunctionDef, ast.ClassDef, ast.Assign)
                self.assertTrue(is_docstring or isinstance(node, allowed), (name, node.lineno))
                if isinstance(node, ast.Assign):
                    self.check_plain_value(node.value, name)

    def check_plain_value(self, value, name):
        """A literal, or a table of functions that are defined above."""
        if isinstance(value, ast.Dict) and all(isinstance(own, ast.Name) for own in value.values):
            above = {node.name for node in ast.parse(source(name)).body
                     if isinstance(node, ast.FunctionDef) and node.lineno < value.lineno}
            self.assertLessEqual({own.id for own in value.values}, above, name)
            value = ast.Tuple(value.keys, ast.Load())
        ast.literal_eval(value)

    def test_statements_and_expressions(self):
        for name in files():
            for node in nodes(name):
                self.assertNotIsInstance(node, BARRED, (name, getattr(node, "lineno", 0)))
                if isinstance(node, ast.stmt):
                    self.assertIsInstance(node, STATEMENTS, (name, node.lineno))
                if isinstance(node, ast.Constant):
                    self.assertNotIsInstance(node.value, (float, complex), (name, node.lineno))
                    if isinstance(node.value, str):
                        self.assertNotIn("%", node.value)

    def test_names(self):
        for name in files():
            for node in nodes(name):
                if isinstance(node, ast.Name):
                    self.assertTrue(node.id in BUILTINS or not hasattr(builtins, node.id), (name, node.id))
                    if isinstance(node.ctx, ast.Store):
                        self.assertNotIn(node.id, BUILTINS, name)
                    self.assertNotIn(node.id, WORDS, name)
                if isinstance(node, ast.arg):
                    self.assertFalse(hasattr(builtins, node.arg), (name, node.arg))
                if isinstance(node, ast.FunctionDef):
                    self.assertNotIn(node.name, WORDS, name)
                    if node.name.startswith("__"):
                        self.assertIn(node.name, DUNDERS, name)

    def test_methods_of_values(self):
        own = {node.name for name in files() for node in nodes(name) if isinstance(node, ast.FunctionDef)}
        for name in files():
            for node in nodes(name):
                if isinstance(node, ast.Call) and isinstance(node.func, ast.Attribute):
                    self.assertIn(node.func.attr, METHODS | own, (name, node.lineno))

    def test_names_are_bound_once(self):
        for name in files():
            body = ast.parse(source(name)).body
            imported = [own.name for node in body if isinstance(node, ast.ImportFrom) for own in node.names]
            values = [target.id for node in body if isinstance(node, ast.Assign) for target in node.targets]
            classes = [node.name for node in body if isinstance(node, ast.ClassDef)]
            functions = [node.name for node in body if isinstance(node, ast.FunctionDef)]
            bound = imported + values + classes + functions
            self.assertEqual(len(bound), len(set(bound)), name)
            local = {node.id for node in nodes(name) if isinstance(node, ast.Name) and isinstance(node.ctx, ast.Store)}
            local |= {node.arg for node in nodes(name) if isinstance(node, ast.arg)}
            self.assertEqual((local - set(values)) & set(imported + classes), set(), name)


if __name__ == "__main__":
    unittest.main()
