"""The form of the package's files: the small part of Python it keeps to, with no clock, chance or files."""

import ast
import builtins
import re
import unittest
from pathlib import Path

PACKAGE = Path(__file__).resolve().parent.parent / "hullpart"

NODES = """
Module Expr Constant ImportFrom alias FunctionDef ClassDef arguments arg Lambda Return Assign AugAssign
If While For Break Continue Pass Raise Try ExceptHandler Call Attribute Subscript Slice Name List Tuple Dict
Load Store BinOp UnaryOp BoolOp Compare IfExp ListComp comprehension JoinedStr FormattedValue keyword
Add Sub Mult FloorDiv Mod Pow BitAnd BitOr BitXor LShift RShift USub Not Invert And Or
Eq NotEq Lt LtE Gt GtE Is IsNot In NotIn
""".split()

OWN_NAMES = """
len range enumerate zip min max sum abs sorted reversed int str bool list tuple dict set frozenset isinstance
ord repr any all divmod Exception ValueError TypeError KeyError IndexError LookupError ZeroDivisionError
ArithmeticError OverflowError RuntimeError NotImplementedError AttributeError StopIteration
""".split()

METHODS = """
append clear copy count endswith extend find get index insert isalnum isalpha isdigit islower isspace isupper
items join keys ljust lower lstrip partition pop remove replace reverse rfind rjust rpartition rsplit rstrip
setdefault split splitlines startswith strip update upper values zfill bit_length
""".split()

WORDS = """
type typing typing_extensions enum Enum IntEnum StrEnum Flag IntFlag Generic Protocol ABC ABCMeta namedtuple
NamedTuple TypedDict TYPE_CHECKING abstractmethod
""".split()


def package_files():
    return sorted(path for path in PACKAGE.rglob("*") if "__pycache__" not in path.parts)


def trees():
    return [(path.name, ast.parse(path.read_text("utf-8"))) for path in package_files()]


def nodes(*kinds):
    return [(name, node) for name, tree in trees() for node in ast.walk(tree) if isinstance(node, kinds)]


def bound_names(node):
    if isinstance(node, ast.Name):
        return [node.id] if isinstance(node.ctx, ast.Store) else []
    return [node.arg] if isinstance(node, ast.arg) else [node.name]


class FormTest(unittest.TestCase):
    def test_the_package_holds_plain_python_files_alone(self):
        self.assertIn("__init__.py", [path.name for path in package_files()])
        for path in package_files():
            self.assertRegex(path.name, r"^(__init__|[a-z][a-z0-9_]*)\.py$")

    def test_signs_and_sizes(self):
        for path in package_files():
            text = path.read_text("utf-8")
            self.assertIsNone(re.search(r"[^ -~\n]", text), path.name)
            self.assertLessEqual(len(text.splitlines()), 400, path.name)
            self.assertLessEqual(max(len(row) for row in text.splitlines()), 120, path.name)

    def test_words_that_stand_nowhere(self):
        for path in package_files():
            text = path.read_text("utf-8")
            self.assertEqual([word for word in WORDS if re.search(rf"\b{word}\b", text)], [], path.name)
            self.assertIsNone(re.search("dataclass|overload|contextmanager", text), path.name)

    def test_statements_and_expressions(self):
        for name, node in nodes(ast.AST):
            self.assertIn(node.__class__.__name__, NODES, (name, getattr(node, "lineno", 0)))

    def test_values(self):
        for name, node in nodes(ast.Constant):
            self.assertIn(type(node.value), (int, str, bool, type(None)), (name, node.lineno))

    def test_only_the_package_is_drawn_from(self):
        files = [path.stem for path in package_files()]
        for name, node in nodes(ast.ImportFrom):
            self.assertEqual(node.level, 0, name)
            self.assertIn(node.module, ["hullpart." + stem for stem in files], name)

    def test_no_two_files_draw_from_one_another(self):
        drawn = {path.stem: [] for path in package_files()}
        for name, node in nodes(ast.ImportFrom):
            drawn[name[:-3]].append(node.module.rpartition(".")[2])
            drawn[name[:-3]].append("__init__")
        while drawn:
            free = [stem for stem in drawn if not any(other in drawn for other in drawn[stem])]
            self.assertNotEqual(free, [], drawn)
            drawn = {stem: drawn[stem] for stem in drawn if stem not in free}

    def test_pythons_own_names(self):
        for name, node in nodes(ast.Name):
            if node.id in dir(builtins):
                self.assertIn(node.id, OWN_NAMES, (name, node.lineno))

    def test_methods(self):
        own = [node.name for name, node in nodes(ast.FunctionDef)]
        for name, node in nodes(ast.Call):
            if isinstance(node.func, ast.Attribute):
                self.assertIn(node.func.attr, METHODS + own, (name, node.lineno))

    def test_bound_names_are_plain_and_not_pythons_own(self):
        for name, node in nodes(ast.Name, ast.arg, ast.FunctionDef, ast.ClassDef):
            for bound in bound_names(node):
                self.assertNotIn(bound, dir(builtins), (name, node.lineno))
                self.assertRegex(bound, r"^([A-Za-z][A-Za-z0-9_]*|__(init|eq|repr|str|len)__)$", name)

    def test_functions_are_small_and_plain(self):
        for name, node in nodes(ast.FunctionDef):
            self.assertLessEqual(node.end_lineno - node.lineno + 1, 40, (name, node.name))
            self.assertEqual(node.decorator_list, [], (name, node.name))
            self.assertIsNone(node.args.vararg or node.args.kwarg, (name, node.name))
            self.assertEqual(node.args.kwonlyargs, [], (name, node.name))


if __name__ == "__main__":
    unittest.main()
