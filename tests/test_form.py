"""The form of the package's files: the small part of Python it keeps to, with no clock, chance or files."""

import ast
import builtins
import re
import unittest
from pathlib import Path

PACKAGE = Path(__file__).resolve().parent.parent / "hullpart"

NODES = """
Module Expr Constant ImportFrom alias FunctionDef ClassDef arguments arg Lambda Return Assign AugAssign
If While For Break Continue Pass Raise Try ExceptHandler Call Attribute Subscript Slice Name List Tuple Dict
Load Store BinOp UnaryOp BoolOp Compare IfExp ListComp comprehension JoinedStr FormattedValue keyword
Add Sub Mult FloorDiv Mod Pow BitAnd BitOr BitXor LShift RShift USub Not Invert And Or
Eq NotEq Lt LtE Gt GtE Is IsNot In NotIn
""".split()

OWN_NAMES = """
len range enumerate zip min max sum abs sorted reversed int str bool list tuple dict set frozenset isinstance
ord repr any all divmod Exception ValueError TypeError KeyError IndexError LookupError ZeroDivisionError
ArithmeticError OverflowError RuntimeError NotImplementedError AttributeError StopIteration
""".split()

METHODS = """
append clear copy count endswith extend find get index insert isalnum isalpha isdigit islower isspace isupper
items join keys ljust lower lstrip partition pop remove replace reverse rfind rjust rpartition rsplit rstrip
setdefault split splitlines startswith strip update upper values zfill bit_length
""".split()

WORDS = """
type typing typing_extensions enum Enum IntEnum StrEnum Flag IntFlag Generic Protocol ABC ABCMeta namedtuple
NamedTuple TypedDict TYPE_CHECKING abstractmethod
""".split()

NOT_AS_NAMES = """
attrgetter breakpoint builtins compile copyright credits delattr dir eval exec exit gc getattr globals hasattr help id
importlib license locals methodcaller os quit setattr super type vars sys __name__ register mro elements open input
version_info with_traceback add_note
""".split()

KEYWORDS = {"sorted": ["key", "reverse"], "min": ["key", "default"], "max": ["key", "default"], "sum": ["start"],
            "enumerate": ["start"], "zip": ["strict"]}
WALKED = ["zip", "enumerate", "reversed", "range", "items", "keys", "values"]
WALKERS = ["list", "tuple", "dict", "sorted", "sum", "any", "all", "enumerate", "zip", "min", "max"]


def package_files():
    return sorted(path for path in PACKAGE.rglob("*") if "__pycache__" not in path.parts)


def trees():
    return [(path.name, ast.parse(path.read_text("utf-8"))) for path in package_files()]


def nodes(*kinds):
    return [(name, node) for name, tree in trees() for node in ast.walk(tree) if isinstance(node, kinds)]


def parented(kind):
    """Each node of the kind with the one it stands in."""
    for name, parent in nodes(ast.AST):
        for child in ast.iter_child_nodes(parent):
            if isinstance(child, kind):
                yield name, child, parent


def called(node):
    if not isinstance(node, ast.Call):
        return None
    return node.func.id if isinstance(node.func, ast.Name) else node.func.attr


def is_walked_by(node, parent):
    if isinstance(parent, (ast.For, ast.comprehension)):
        return parent.iter is node
    return called(parent) in WALKERS and node in parent.args


def bound_names(node):
    if isinstance(node, ast.Name):
        return [node.id] if isinstance(node.ctx, ast.Store) else []
    return [node.arg] if isinstance(node, ast.arg) else [node.name]


class FormTest(unittest.TestCase):
    def test_the_package_holds_plain_python_files_alone(self):
        self.assertIn("__init__.py", [path.name for path in package_files()])
        for path in package_files():
            self.assertRegex(path.name, r"^(__init__|[a-z][a-z0-9_]*)\.py$")

    def test_signs_and_sizes(self):
        for path in package_files():
            text = path.read_text("utf-8")
            self.assertIsNone(re.search(r"[^ -~\n]", text), path.name)
            self.assertLessEqual(len(text.splitlines()), 400, path.name)
            self.assertLessEqual(max(len(row) for row in text.splitlines()), 120, path.name)

    def test_words_that_stand_nowhere(self):
        for path in package_files():
            text = path.read_text("utf-8")
            self.assertEqual([word for word in WORDS if re.search(rf"\b{word}\b", text)], [], path.name)
            self.assertIsNone(re.search("dataclass|overload|contextmanager", text), path.name)

    def test_statements_and_expressions(self):
        for name, node in nodes(ast.AST):
            self.assertIn(node.__class__.__name__, NODES, (name, getattr(node, "lineno", 0)))

    def test_values(self):
        for name, node in nodes(ast.Constant):
            self.assertIn(type(node.value), (int, str, bool, type(None)), (name, node.lineno))

    def test_only_the_package_is_drawn_from(self):
        files = [path.stem for path in package_files()]
        for name, node in nodes(ast.ImportFrom):
            self.assertEqual(node.level, 0, name)
            self.assertIn(node.module, ["hullpart." + stem for stem in files], name)

    def test_no_two_files_draw_from_one_another(self):
        drawn = {path.stem: [] for path in package_files()}
        for name, node in nodes(ast.ImportFrom):
            drawn[name[:-3]].append(node.module.rpartition(".")[2])
            drawn[name[:-3]].append("__init__")
        while drawn:
            free = [stem for stem in drawn if not any(other in drawn for other in drawn[stem])]
            self.assertNotEqual(free, [], drawn)
            drawn = {stem: drawn[stem] for stem in drawn if stem not in free}

    def test_pythons_own_names(self):
        for name, node in nodes(ast.Name):
            if node.id in dir(builtins):
                self.assertIn(node.id, OWN_NAMES, (name, node.lineno))

    def test_methods(self):
        own = [node.name for name, node in nodes(ast.FunctionDef)]
        for name, node in nodes(ast.Call):
            if isinstance(node.func, ast.Attribute):
                self.assertIn(node.func.attr, METHODS + own, (name, node.lineno))

    def test_bound_names_are_plain_and_not_pythons_own(self):
        for name, node in nodes(ast.Name, ast.arg, ast.FunctionDef, ast.ClassDef):
            for bound in bound_names(node):
                self.assertNotIn(bound, dir(builtins), (name, node.lineno))
                self.assertRegex(bound, r"^([A-Za-z][A-Za-z0-9_]*|__(init|eq|repr|str|len)__)$", name)

    def test_functions_are_small_and_plain(self):
        for name, node in nodes(ast.FunctionDef):
            self.assertLessEqual(node.end_lineno - node.lineno + 1, 40, (name, node.name))
            self.assertEqual(node.decorator_list, [], (name, node.name))
            self.assertIsNone(node.args.vararg or node.args.kwarg, (name, node.name))
            self.assertEqual(node.args.kwonlyargs, [], (name, node.name))

    def test_no_local_is_called_like_an_import_or_a_class(self):
        for name, tree in trees():
            taken = [alias.asname or alias.name for node in ast.walk(tree) if isinstance(node, ast.ImportFrom)
                     for alias in node.names]
            taken += [node.name for node in tree.body if isinstance(node, ast.ClassDef)]
            for node in ast.walk(tree):
                if isinstance(node, (ast.Name, ast.arg)):
                    self.assertEqual([bound for bound in bound_names(node) if bound in taken], [], (name, node.lineno))

    def test_each_name_of_a_file_is_bound_once(self):
        for name, tree in trees():
            bound = [alias.name for node in tree.body if isinstance(node, ast.ImportFrom) for alias in node.names]
            bound += [node.name for node in tree.body if isinstance(node, (ast.FunctionDef, ast.ClassDef))]
            bound += [node.targets[0].id for node in tree.body if isinstance(node, ast.Assign)]
            self.assertEqual(len(bound), len(set(bound)), name)

    def test_names_that_are_not_used(self):
        for name, node in nodes(ast.Name):
            self.assertNotIn(node.id, NOT_AS_NAMES, (name, node.lineno))

    def test_one_target_in_an_assignment(self):
        for name, node in nodes(ast.Assign):
            self.assertEqual(len(node.targets), 1, (name, node.lineno))
            self.assertNotIsInstance(node.targets[0], ast.Tuple, (name, node.lineno))

    def test_comprehensions_and_texts_are_plain(self):
        for name, node in nodes(ast.ListComp):
            self.assertEqual(len(node.generators), 1, (name, node.lineno))
            self.assertLessEqual(len(node.generators[0].ifs), 1, (name, node.lineno))
        for name, node in nodes(ast.FormattedValue):
            self.assertIsInstance(node.value, ast.Name, (name, node.lineno))
            self.assertIsNone(node.format_spec, (name, node.lineno))
        for name, node in nodes(ast.Constant):
            self.assertNotIn("%", str(node.value), (name, node.lineno))

    def test_is_stands_beside_none_true_and_false(self):
        for name, node in nodes(ast.Compare):
            if any(isinstance(sign, (ast.Is, ast.IsNot)) for sign in node.ops):
                self.assertIsInstance(node.comparators[0], ast.Constant, (name, node.lineno))

    def test_keywords(self):
        own = [node.name for name, node in nodes(ast.FunctionDef)]
        for name, node in nodes(ast.Call):
            if called(node) not in own:
                for keyword in node.keywords:
                    self.assertIn(keyword.arg, KEYWORDS.get(called(node), []), (name, node.lineno))

    def test_walks_are_not_kept(self):
        for name, node, parent in parented(ast.Call):
            if called(node) in WALKED:
                self.assertTrue(is_walked_by(node, parent), (name, node.lineno))

    def test_sets_are_not_kept(self):
        for name, node, parent in parented(ast.Call):
            if called(node) in ("set", "frozenset"):
                asked = isinstance(parent, ast.Compare) or called(parent) in ("sorted", "len")
                self.assertTrue(asked, (name, node.lineno))

    def test_only_own_refusals_are_taken(self):
        own = [node.name for name, node in nodes(ast.ClassDef)]
        for name, node in nodes(ast.ExceptHandler):
            self.assertIsInstance(node.type, ast.Name, (name, node.lineno))
            self.assertIn(node.type.id, own, (name, node.lineno))


if __name__ == "__main__":
    unittest.main()
