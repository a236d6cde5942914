"""Holds the package's files against the rules of ../shared/LANGUAGE.md that can be read off the code."""

import ast
import builtins
import re
import unittest
from pathlib import Path

PACKAGE = Path(__file__).resolve().parent.parent / "votesway"

NODES = """Module FunctionDef ClassDef arguments arg Lambda Return Assign AugAssign For While If Raise Try
ExceptHandler ImportFrom alias Expr Pass Break Continue BoolOp And Or BinOp Add Sub Mult FloorDiv Mod Pow LShift RShift
BitOr BitXor BitAnd UnaryOp Invert Not UAdd USub IfExp Dict ListComp comprehension Compare Eq NotEq Lt LtE Gt GtE Is
IsNot In NotIn Call keyword JoinedStr FormattedValue Constant Attribute Subscript Name List Tuple Slice Load
Store""".split()

NAMES = """len range enumerate zip min max sum abs sorted reversed int str bool list tuple dict set frozenset
isinstance ord repr any all divmod Exception ValueError TypeError KeyError IndexError LookupError ZeroDivisionError
ArithmeticError OverflowError RuntimeError NotImplementedError AttributeError StopIteration""".split()

METHODS = """append clear copy count endswith extend find get index insert isalnum isalpha isdigit islower isspace
isupper items join keys ljust lower lstrip partition pop remove replace reverse rfind rjust rpartition rsplit rstrip
setdefault split splitlines startswith strip update upper values zfill bit_length""".split()

WORDS = """type typing typing_extensions enum Enum IntEnum StrEnum Flag IntFlag Generic Protocol ABC ABCMeta
namedtuple NamedTuple TypedDict TYPE_CHECKING abstractmethod""".split()

UNDERSCORED = ("__init__", "__eq__", "__repr__", "__str__", "__len__")


def files():
    return sorted(path for path in PACKAGE.rglob("*") if "__pycache__" not in path.parts)


def texts():
    return [(path.name, path.read_text(encoding="utf-8")) for path in files()]


def trees():
    return [(name, ast.parse(text)) for name, text in texts()]


def own_attributes(tree):
    defs = [node.name for node in ast.walk(tree) if isinstance(node, ast.FunctionDef)]
    stored = [node.attr for node in ast.walk(tree)
              if isinstance(node, ast.Attribute) and isinstance(node.ctx, ast.Store)]
    return defs + stored


def bound_names(tree):
    for node in ast.walk(tree):
        if isinstance(node, ast.Name) and isinstance(node.ctx, ast.Store):
            yield node.id
        elif isinstance(node, ast.arg):
            yield node.arg
        elif isinstance(node, (ast.FunctionDef, ast.ClassDef)):
            yield node.name
        elif isinstance(node, ast.Attribute):
            yield node.attr


class Language(unittest.TestCase):
    def test_files(self):
        self.assertIn("__init__.py", [path.name for path in files()])
        for path in files():
            self.assertRegex(path.name, r"^([a-z][a-z0-9_]*|__init__)\.py$")
            self.assertNotIn(path.stem, dir(builtins))

    def test_signs_and_lengths(self):
        for name, text in texts():
            self.assertRegex(text, r"\A[ -~\n]*\Z", name)
            rows = text.split("\n")
            self.assertLessEqual(len(rows), 401, name)
            self.assertLessEqual(max(len(row) for row in rows), 120, name)

    def test_words(self):
        for name, text in texts():
            self.assertFalse(set(re.findall(r"\w+", text)) & set(WORDS), name)
            self.assertNotRegex(text, "dataclass|overload|contextmanager", name)

    def test_nodes(self):
        for name, tree in trees():
            for node in ast.walk(tree):
                self.assertIn(type(node).__name__, NODES, (name, getattr(node, "lineno", 0)))

    def test_top_of_a_file(self):
        for name, tree in trees():
            self.assertIsNotNone(ast.get_docstring(tree), name)
            for node in tree.body[1:]:
                self.assertIsInstance(node, (ast.ImportFrom, ast.FunctionDef, ast.ClassDef, ast.Assign), name)

    def test_lone_expressions_are_calls(self):
        for name, tree in trees():
            for node in ast.walk(tree):
                if isinstance(node, ast.Expr) and node is not tree.body[0]:
                    self.assertIsInstance(node.value, ast.Call, (name, node.lineno))

    def test_functions(self):
        for name, tree in trees():
            for node in ast.walk(tree):
                if isinstance(node, ast.FunctionDef):
                    self.assertLessEqual(node.end_lineno - node.lineno + 1, 40, (name, node.name))
                    self.assertEqual(node.decorator_list, [], (name, node.name))
                    self.assertIsNone(node.args.vararg or node.args.kwarg, (name, node.name))
                    self.assertEqual(node.args.kwonlyargs, [], (name, node.name))

    def test_imports(self):
        for name, tree in trees():
            for node in ast.walk(tree):
                if isinstance(node, ast.ImportFrom):
                    self.assertIn(node, tree.body, name)
                    self.assertRegex(node.module, r"^votesway\.[a-z_]+$", name)
                    self.assertEqual(node.level, 0, name)
                    self.assertNotIn("*", [alias.name for alias in node.names], name)

    def test_no_two_files_draw_from_one_another(self):
        drawn = {name[:-3]: {node.module.split(".")[1] for node in tree.body if isinstance(node, ast.ImportFrom)}
                 for name, tree in trees()}
        while drawn:
            free = [name for name in drawn if not drawn[name] & set(drawn)]
            self.assertTrue(free, drawn)
            for name in free:
                drawn.pop(name)

    def test_names_are_drawn_from_the_file_that_defines_them(self):
        defined = {name[:-3]: {node.name for node in tree.body if isinstance(node, (ast.FunctionDef, ast.ClassDef))}
                   for name, tree in trees()}
        for name, tree in trees():
            for node in tree.body:
                if isinstance(node, ast.ImportFrom):
                    for alias in node.names:
                        self.assertIn(alias.name, defined[node.module.split(".")[1]], name)
                        self.assertIsNone(alias.asname, name)

    def test_no_local_is_called_like_a_class_or_an_import(self):
        for name, tree in trees():
            taken = {alias.name for node in tree.body if isinstance(node, ast.ImportFrom) for alias in node.names}
            taken |= {node.name for node in tree.body if isinstance(node, ast.ClassDef)}
            bound = {node.arg for node in ast.walk(tree) if isinstance(node, ast.arg)}
            bound |= {node.id for node in ast.walk(tree)
                      if isinstance(node, ast.Name) and isinstance(node.ctx, ast.Store)}
            self.assertFalse(taken & bound, name)

    def test_names(self):
        for name, tree in trees():
            for bound in bound_names(tree):
                self.assertTrue(re.match(r"[A-Za-z]", bound) or bound in UNDERSCORED, (name, bound))
            plain = [node.id for node in ast.walk(tree) if isinstance(node, ast.Name)]
            params = [node.arg for node in ast.walk(tree) if isinstance(node, ast.arg)]
            for used in plain:
                self.assertFalse(used in dir(builtins) and used not in NAMES, (name, used))
            stored = [node.id for node in ast.walk(tree)
                      if isinstance(node, ast.Name) and isinstance(node.ctx, ast.Store)]
            self.assertFalse(set(stored + params) & set(dir(builtins)), name)

    def test_methods(self):
        own = [attribute for _, tree in trees() for attribute in own_attributes(tree)]
        for name, tree in trees():
            for node in ast.walk(tree):
                if isinstance(node, ast.Attribute):
                    self.assertIn(node.attr, METHODS + own, (name, node.lineno))

    def test_values(self):
        for name, tree in trees():
            for node in ast.walk(tree):
                if isinstance(node, ast.Constant):
                    self.assertIn(type(node.value), (int, str, bool, type(None)), (name, node.lineno))
                    self.assertNotIn("%", str(node.value), (name, node.lineno))
                if isinstance(node, ast.comprehension):
                    self.assertLessEqual(len(node.ifs), 1, name)
                if isinstance(node, ast.ListComp):
                    self.assertEqual(len(node.generators), 1, (name, node.lineno))
                if isinstance(node, ast.Assign):
                    self.assertEqual(len(node.targets), 1, (name, node.lineno))


if __name__ == "__main__":
    unittest.main()
