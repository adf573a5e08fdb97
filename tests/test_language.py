"""The rules of LANGUAGE.md that a short look at the package's files can tell."""

import ast
import builtins
import pathlib
import re
import unittest

PACKAGE = pathlib.Path(__file__).resolve().parent.parent / "liftwater"

BUILTINS = set(
    "len range enumerate zip min max sum abs sorted reversed int str bool list tuple dict set isinstance ord repr "
    "any all divmod iter next Exception ValueError TypeError KeyError IndexError LookupError ZeroDivisionError "
    "ArithmeticError OverflowError RuntimeError NotImplementedError AttributeError StopIteration NotImplemented".split()
)
BARRED_WORDS = re.compile(
    r"\b(type|typing|typing_extensions|enum|Enum|IntEnum|StrEnum|Flag|IntFlag|Generic|Protocol|ABC|ABCMeta|namedtuple"
    r"|NamedTuple|TypedDict|TYPE_CHECKING|abstractmethod)\b|dataclass|overload|contextmanager"
)
# Of those that L25 lists, the ones that are used.
LISTED_METHODS = set("append bit_length count get items join pop split".split())
# L7 lets these take a list only, once a class has an __eq__.
TAKE_LISTS = ("any", "all", "min", "max", "sum", "sorted")


def sources():
    return {path.name: path.read_text(encoding="utf-8") for path in sorted(PACKAGE.glob("*.py"))}


def nodes():
    for name, text in sources().items():
        for node in ast.walk(ast.parse(text)):
            yield f"{name}:{getattr(node, 'lineno', 0)}", node


def names_bound(tree):
    """Every name that a file binds somewhere, in whatever function."""
    bound = set()
    for node in ast.walk(tree):
        if isinstance(node, (ast.FunctionDef, ast.ClassDef)):
            bound.add(node.name)
        elif isinstance(node, ast.arg):
            bound.add(node.arg)
        elif isinstance(node, ast.alias):
            bound.add(node.asname or node.name)
        elif isinstance(node, ast.Name) and not isinstance(node.ctx, ast.Load):
            bound.add(node.id)
        elif isinstance(node, ast.ExceptHandler) and node.name:
            bound.add(node.name)
    return bound


class LanguageTest(unittest.TestCase):
    def test_the_folder_has_plain_files_only(self):
        for path in PACKAGE.iterdir():
            if path.name != "__pycache__":
                self.assertRegex(path.name, r"^([a-z][a-z0-9_]*|__init__|__main__)\.py$")

    def test_signs_lines_and_words(self):
        for name, text in sources().items():
            self.assertRegex(text, r"\A[ -~\n]*\Z", name)
            self.assertNotRegex(text, BARRED_WORDS, name)
            self.assertLessEqual(len(text.splitlines()), 400, name)
            for at, line in enumerate(text.splitlines(), 1):
                self.assertLessEqual(len(line), 120, f"{name}:{at}")

    def test_functions_are_short(self):
        for where, node in nodes():
            if isinstance(node, ast.FunctionDef):
                self.assertLessEqual(node.end_lineno - node.lineno + 1, 40, where)

    def test_imports_name_files_of_the_package(self):
        for where, node in nodes():
            self.assertNotIsInstance(node, ast.Import, where)
            if isinstance(node, ast.ImportFrom):
                self.assertEqual(node.level, 0, where)
                self.assertRegex(node.module, r"^liftwater\.[a-z_]+$", where)
                self.assertNotIn("*", [alias.name for alias in node.names], where)

    def test_names(self):
        for name, text in sources().items():
            tree = ast.parse(text)
            bound = names_bound(tree)
            for word in bound:
                self.assertRegex(word, r"^([A-Za-z][A-Za-z0-9_]*|__[a-z]+__)$", name)
                self.assertNotIn(word, dir(builtins), name)
            for node in ast.walk(tree):
                if isinstance(node, ast.Name) and node.id not in bound:
                    self.assertIn(node.id, BUILTINS, f"{name}:{node.lineno}")

    def test_no_local_name_is_that_of_an_import_or_a_class(self):
        for name, text in sources().items():
            tree = ast.parse(text)
            outer = [alias.asname or alias.name for node in tree.body if isinstance(node, ast.ImportFrom)
                     for alias in node.names]
            outer += [node.name for node in tree.body if isinstance(node, (ast.ClassDef, ast.FunctionDef))]
            self.assertEqual(len(outer), len(set(outer)), name)
            for node in ast.walk(tree):
                if isinstance(node, ast.FunctionDef):
                    self.assertFalse(set(outer) & (names_bound(node) - {node.name}), f"{name}:{node.lineno}")

    def test_no_name_is_a_method_and_an_attribute(self):
        methods, given, read = set(), set(), set()
        for where, node in nodes():
            if isinstance(node, ast.ClassDef):
                defined = [part.name for part in node.body if isinstance(part, ast.FunctionDef)]
                self.assertEqual(len(defined), len(set(defined)), where)
                methods.update(defined)
            elif isinstance(node, ast.Attribute):
                (read if isinstance(node.ctx, ast.Load) else given).add(node.attr)
        self.assertFalse(methods & given)
        self.assertFalse(given & set(dir(list) + dir(dict) + dir(str) + dir(int) + dir(set)))
        self.assertLessEqual(read, methods | given | LISTED_METHODS)

    def test_double_underscore_methods(self):
        for where, node in nodes():
            if isinstance(node, ast.FunctionDef) and node.name.startswith("_"):
                self.assertIn(node.name, ("__init__", "__eq__"), where)
                if node.name == "__eq__":
                    self.assertEqual([part.__class__ for part in node.body], [ast.Return], where)
                    self.assertFalse([part for part in ast.walk(node) if isinstance(part, ast.NamedExpr)], where)

    def test_module_level_is_plain(self):
        for name, text in sources().items():
            for node in ast.parse(text).body:
                where = f"{name}:{node.lineno}"
                if isinstance(node, ast.Assign):
                    self.assertIsInstance(node.value, ast.Constant, where)
                else:
                    self.assertIsInstance(node, (ast.Expr, ast.ImportFrom, ast.FunctionDef, ast.ClassDef), where)

    def test_errors_are_made_where_they_are_raised_and_caught_by_name(self):
        own = [node.name for where, node in nodes() if isinstance(node, ast.ClassDef) and where.startswith("errors")]
        for where, node in nodes():
            if isinstance(node, ast.Raise):
                self.assertIn(node.exc.func.id, own, where)
            if isinstance(node, ast.ExceptHandler):
                caught = node.type.elts if isinstance(node.type, ast.Tuple) else [node.type]
                self.assertLessEqual({part.id for part in caught}, set(own), where)
            if isinstance(node, ast.Try):
                for last in node.finalbody:
                    self.assertIsInstance(last, ast.Expr, where)
                    self.assertEqual(last.value.func.attr, "append", where)

    def test_iterated_at_once(self):
        for where, node in nodes():
            if isinstance(node, (ast.Assign, ast.Return)) and isinstance(node.value, ast.Call):
                called = node.value.func
                word = called.id if isinstance(called, ast.Name) else called.attr
                self.assertNotIn(word, ("zip", "enumerate", "reversed", "range", "items", "keys", "values"), where)

    def test_no_two_files_import_from_each_other(self):
        known = {}
        for name, text in sources().items():
            known[name[:-3]] = [node.module.split(".")[1] for node in ast.parse(text).body
                                if isinstance(node, ast.ImportFrom)]
        placed = set()
        while len(placed) < len(known):
            ready = [name for name in known if name not in placed and set(known[name]) <= placed]
            self.assertTrue(ready, f"{sorted(set(known) - placed)} import from each other")
            placed.update(ready)

    def test_no_floats_division_or_percent(self):
        for where, node in nodes():
            self.assertNotIsInstance(node, (ast.Div, ast.Global, ast.AsyncFunctionDef), where)
            if isinstance(node, ast.Constant):
                self.assertNotIsInstance(node.value, (float, complex), where)
                self.assertNotIn("%", node.value if isinstance(node.value, str) else "", where)

    def test_lists_where_generators_are_not_let(self):
        for where, node in nodes():
            if isinstance(node, ast.Call) and isinstance(node.func, ast.Name) and node.func.id in TAKE_LISTS:
                for part in node.args:
                    self.assertNotIsInstance(part, ast.GeneratorExp, where)
