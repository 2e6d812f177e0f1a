"""Rules of the language that a look at the files of the package can tell."""

import ast
import builtins
import pathlib
import re
import unittest

PACKAGE = pathlib.Path(__file__).resolve().parent.parent / "nextmarks"

ALLOWED_BUILTINS = set("""
    len range enumerate zip min max sum abs sorted reversed int str bool bytes list tuple dict set frozenset isinstance
    ord repr any all divmod iter next super property staticmethod classmethod Exception ValueError TypeError KeyError
    IndexError LookupError ZeroDivisionError ArithmeticError OverflowError RuntimeError NotImplementedError
    AttributeError StopIteration NotImplemented
""".split())

BARRED_WORDS = re.compile(
    r"\b(type|typing|typing_extensions|enum|Enum|IntEnum|StrEnum|Flag|IntFlag|Generic|Protocol|ABC|ABCMeta|namedtuple"
    r"|NamedTuple|TypedDict|TYPE_CHECKING|abstractmethod)\b|dataclass|overload|contextmanager")

BUILTIN_METHODS = set("""
    append clear copy count endswith extend find get index insert isalnum isalpha isdigit islower isspace isupper items
    join keys ljust lower lstrip partition pop remove replace reverse rfind rjust rpartition rsplit rstrip setdefault
    split splitlines startswith strip update upper values zfill bit_length
""".split())

BARRED_NAMES = set("""
    register mro elements open input version_info with_traceback add_note format format_map args
""".split())


def sources():
    return {path.name: path.read_text(encoding="utf-8") for path in sorted(PACKAGE.glob("*.py"))}


def nodes(kind):
    return [(name, node) for name, text in sources().items() for node in ast.walk(ast.parse(text))
            if isinstance(node, kind)]


def bound_names(tree):
    """Return the names that the functions, classes and assignments at module level bind."""
    names = []
    for node in tree.body:
        if isinstance(node, (ast.FunctionDef, ast.ClassDef)):
            names.append(node.name)
        elif isinstance(node, ast.Assign):
            names.extend(target.id for target in node.targets)
    return names


def method_names():
    return {item.name for _, node in nodes(ast.ClassDef) for item in node.body if isinstance(item, ast.FunctionDef)}


def attribute_names():
    return {node.attr for _, node in nodes(ast.Attribute) if isinstance(node.ctx, ast.Store)}


class Language(unittest.TestCase):
    def test_package_contains_only_its_files(self):
        self.assertIn("__init__.py", sources())
        for path in PACKAGE.iterdir():
            if path.name != "__pycache__":
                self.assertRegex(path.name, r"^[a-z0-9_]+\.py$")

    def test_characters_and_sizes(self):
        for name, text in sources().items():
            self.assertRegex(text, r"\A[\n -~]*\Z", name)
            self.assertLessEqual(len(text.splitlines()), 400, name)
            self.assertLessEqual(max(map(len, text.splitlines()), default=0), 120, name)
        for name, node in nodes(ast.FunctionDef):
            self.assertLessEqual(node.end_lineno - node.lineno + 1, 40, (name, node.name))

    def test_barred_words(self):
        for name, text in sources().items():
            self.assertIsNone(BARRED_WORDS.search(text), name)

    def test_imports_name_the_file_that_defines_the_name(self):
        self.assertEqual(nodes(ast.Import), [])
        bound = {name: bound_names(ast.parse(text)) for name, text in sources().items()}
        for name, node in nodes(ast.ImportFrom):
            package, _, module = (node.module or "").partition(".")
            self.assertEqual((node.level, package), (0, "nextmarks"), name)
            for alias in node.names:
                self.assertIn(alias.name, bound[module + ".py"], name)

    def test_names_are_bound_once(self):
        for name, text in sources().items():
            names = bound_names(ast.parse(text))
            self.assertEqual(sorted(names), sorted(set(names)), name)

    def test_only_allowed_builtins(self):
        for name, node in nodes(ast.Name):
            self.assertFalse(node.id.startswith("_"), (name, node.id))
            if hasattr(builtins, node.id):
                self.assertIn(node.id, ALLOWED_BUILTINS, name)
                self.assertIsInstance(node.ctx, ast.Load, (name, node.id))
        for name, node in nodes(ast.arg):
            self.assertFalse(hasattr(builtins, node.arg) or node.arg.startswith("_"), (name, node.arg))

    def test_no_two_files_import_from_each_other(self):
        imported = {name: set() for name in sources()}
        for name, node in nodes(ast.ImportFrom):
            imported[name].add(node.module.partition(".")[2] + ".py")
        left = set(imported)
        while left:
            free = {name for name in left if not imported[name] & left}
            self.assertTrue(free, left)
            left -= free

    def test_no_name_is_a_method_and_an_attribute(self):
        self.assertEqual(method_names() & attribute_names(), set())

    def test_attributes_are_assigned_by_a_class_or_are_methods(self):
        known = method_names() | attribute_names() | BUILTIN_METHODS
        for name, node in nodes(ast.Attribute):
            self.assertIn(node.attr, known, name)
            self.assertNotIn(node.attr, BARRED_NAMES, name)
        self.assertEqual(attribute_names() & (BUILTIN_METHODS - {"count"}), set())

    def test_double_underscore_methods(self):
        self.assertEqual({name for name in method_names() if name.startswith("_")}, {"__init__", "__eq__", "__len__"})

    def test_errors_are_raised_by_name_and_own_ones_are_caught(self):
        errors = set(bound_names(ast.parse(sources()["errors.py"])))
        for name, node in nodes(ast.Raise):
            self.assertIsNone(node.cause, name)
            if node.exc is not None:
                self.assertIsInstance(node.exc, ast.Call, name)
                self.assertIn(node.exc.func.id, errors, name)
        for name, node in nodes(ast.ExceptHandler):
            self.assertIn(node.type.id, errors, name)

    def test_is_stands_beside_none_and_bools(self):
        for name, node in nodes(ast.Compare):
            for sign, other in zip(node.ops, node.comparators):
                if isinstance(sign, (ast.Is, ast.IsNot)):
                    self.assertIsInstance(other, ast.Constant, name)
                    self.assertIn(other.value, (None, True, False), name)

    def test_no_keywords_where_builtin_values_have_such_a_method(self):
        for name, node in nodes(ast.Call):
            if isinstance(node.func, ast.Attribute) and node.func.attr in BUILTIN_METHODS:
                self.assertEqual(node.keywords, [], name)

    def test_no_local_name_is_that_of_an_import(self):
        for name, text in sources().items():
            tree = ast.parse(text)
            imported = {alias.name for node in ast.walk(tree) if isinstance(node, ast.ImportFrom)
                        for alias in node.names}
            stored = {node.id for node in ast.walk(tree) if isinstance(node, ast.Name)
                      and isinstance(node.ctx, ast.Store)}
            passed = {node.arg for node in ast.walk(tree) if isinstance(node, ast.arg)}
            self.assertEqual(imported & (stored | passed), set(), name)

    def test_barred_syntax(self):
        # A class has __eq__, so any, all and their kin take lists in place of generator expressions.
        barred = (ast.Global, ast.AsyncFunctionDef, ast.Await, ast.Div, ast.GeneratorExp, ast.Yield, ast.YieldFrom)
        self.assertEqual(nodes(barred), [])
        for name, node in nodes(ast.Constant):
            self.assertNotIsInstance(node.value, (float, complex), name)
            if isinstance(node.value, str):
                self.assertNotIn(chr(37), node.value, name)


if __name__ == "__main__":
    unittest.main()
