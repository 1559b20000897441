"""What promise 1 rules out (a clock, chance, files), and the form of the package's own files."""

import ast
import builtins
import pathlib
import re
import unittest

PACKAGE = pathlib.Path(__file__).resolve().parent.parent / "alikewritten"

PYTHONS_OWN = set(
    "len range enumerate zip min max sum abs sorted reversed int str bool list tuple dict set frozenset isinstance"
    " ord repr any all divmod Exception ValueError TypeError KeyError IndexError LookupError ZeroDivisionError"
    " ArithmeticError OverflowError RuntimeError NotImplementedError AttributeError StopIteration".split()
)
METHODS = set(
    "append clear copy count endswith extend find get index insert isalnum isalpha isdigit islower isspace isupper"
    " items join keys ljust lower lstrip partition pop remove replace reverse rfind rjust rpartition rsplit rstrip"
    " setdefault split splitlines startswith strip update upper values zfill bit_length".split()
)
NODES = (
    ast.Module, ast.ImportFrom, ast.alias, ast.FunctionDef, ast.ClassDef, ast.arguments, ast.arg,
    ast.Assign, ast.AugAssign, ast.If, ast.While, ast.For, ast.Return, ast.Break, ast.Continue, ast.Pass, ast.Raise,
    ast.Try, ast.ExceptHandler, ast.Expr, ast.Constant, ast.Name, ast.List, ast.Tuple, ast.Dict, ast.BinOp,
    ast.UnaryOp, ast.BoolOp, ast.Compare, ast.IfExp, ast.Call, ast.Attribute, ast.Subscript, ast.Slice,
    ast.ListComp, ast.comprehension, ast.Lambda, ast.JoinedStr, ast.FormattedValue,
    ast.operator, ast.unaryop, ast.boolop, ast.cmpop, ast.expr_context,
)
WORDS = re.compile(
    r"\b(type|typing|typing_extensions|enum|Enum|IntEnum|StrEnum|Flag|IntFlag|Generic|Protocol|ABC|ABCMeta"
    r"|namedtuple|NamedTuple|TypedDict|TYPE_CHECKING|abstractmethod)\b|dataclass|overload|contextmanager"
)


def files():
    return sorted(PACKAGE.glob("*.py"))


def own_modules():
    return {f"alikewritten.{path.stem}" for path in files()}


def bound_names(tree):
    for node in ast.walk(tree):
        if isinstance(node, (ast.FunctionDef, ast.ClassDef)):
            yield node.name
        elif isinstance(node, ast.arg):
            yield node.arg
        elif isinstance(node, ast.Name) and isinstance(node.ctx, ast.Store):
            yield node.id
        elif isinstance(node, ast.alias):
            yield node.asname or node.name


class TheForm(unittest.TestCase):
    def hold_of_each_file(self, hold):
        for path in files():
            source = path.read_text(encoding="utf-8")
            with self.subTest(path.name):
                hold(source, ast.parse(source))

    def test_the_package_holds_python_files_alone(self):
        others = [path.name for path in PACKAGE.iterdir() if path.suffix != ".py" and path.name != "__pycache__"]
        self.assertEqual(others, [])
        self.assertIn("__init__.py", [path.name for path in files()])

    def test_imports_are_of_the_packages_own_modules_alone(self):
        def hold(_, tree):
            for node in ast.walk(tree):
                self.assertNotIsInstance(node, ast.Import)
                if isinstance(node, ast.ImportFrom):
                    self.assertIn(node, tree.body)
                    self.assertEqual(node.level, 0)
                    self.assertIn(node.module, own_modules())

        self.hold_of_each_file(hold)

    def test_names_are_the_programs_own_or_allowed_ones(self):
        def hold(_, tree):
            bound = set(bound_names(tree))
            self.assertEqual(bound & set(dir(builtins)), set())
            self.assertEqual([name for name in bound if name.startswith("_")], [])
            for node in ast.walk(tree):
                if isinstance(node, ast.Name):
                    self.assertIn(node.id, bound | PYTHONS_OWN)
                if isinstance(node, ast.Attribute):
                    self.assertIn(node.attr, METHODS)

        self.hold_of_each_file(hold)

    def test_only_the_small_part_of_the_language_is_used(self):
        def hold(_, tree):
            for node in ast.walk(tree):
                self.assertIsInstance(node, NODES)
                self.assertNotIsInstance(node, (ast.Div, ast.MatMult))
                if isinstance(node, (ast.For, ast.While)):
                    self.assertEqual(node.orelse, [])
                if isinstance(node, ast.Assign):
                    self.assertEqual(len(node.targets), 1)
                if isinstance(node, ast.Constant):
                    self.assertNotIsInstance(node.value, (float, bytes, complex))
                    self.assertNotIn("%", str(node.value))

        self.hold_of_each_file(hold)

    def test_sizes_signs_and_words(self):
        def hold(source, tree):
            lines = source.split("\n")
            self.assertLessEqual(len(lines), 400)
            self.assertLessEqual(max(len(line) for line in lines), 120)
            self.assertRegex(source, r"\A[ -~\n]*\Z")
            self.assertIsNone(WORDS.search(source))
            for node in ast.walk(tree):
                if isinstance(node, ast.FunctionDef):
                    self.assertLessEqual(node.end_lineno - node.lineno + 1, 40)

        self.hold_of_each_file(hold)

    def test_the_top_of_a_file_keeps_nothing_that_can_be_changed(self):
        def hold(_, tree):
            for node in tree.body:
                if isinstance(node, ast.Assign):
                    self.assertIsInstance(node.value, (ast.Constant, ast.Tuple))

        self.hold_of_each_file(hold)


if __name__ == "__main__":
    unittest.main()
