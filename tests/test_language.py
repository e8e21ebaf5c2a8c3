"""What can be seen plainly of ../shared/LANGUAGE.md in the package's own files."""

import ast
import builtins
import pathlib
import re
import unittest

PACKAGE = pathlib.Path(__file__).resolve().parent.parent / "heedwise"
FILES = sorted(path for path in PACKAGE.rglob("*") if "__pycache__" not in path.parts and path.is_file())

OWN_NAMES = set(
    "len range enumerate zip min max sum abs sorted reversed int str bool list tuple dict set frozenset isinstance"
    " ord repr any all divmod Exception ValueError TypeError KeyError IndexError LookupError ZeroDivisionError"
    " ArithmeticError OverflowError RuntimeError NotImplementedError AttributeError StopIteration".split()
)
BANNED_WORDS = (
    "type typing typing_extensions enum Enum IntEnum StrEnum Flag IntFlag Generic Protocol ABC ABCMeta namedtuple"
    " NamedTuple TypedDict TYPE_CHECKING abstractmethod"
).split()
BANNED_PARTS = ("dataclass", "overload", "contextmanager")
METHODS = ("__init__", "__eq__", "__repr__", "__str__", "__len__")
PYTHON_METHODS = set(
    "append clear copy count endswith extend find get index insert isalnum isalpha isdigit islower isspace isupper"
    " items join keys ljust lower lstrip partition pop remove replace reverse rfind rjust rpartition rsplit rstrip"
    " setdefault split splitlines startswith strip update upper values zfill bit_length".split()
)
PYTHON_VALUES = set(
    name for kind in (str, int, list, tuple, dict, set, frozenset, bytes, bytearray) for name in dir(kind)
)
BANNED_FORMS = (
    ast.With, ast.Match, ast.Delete, ast.Global, ast.Nonlocal, ast.Assert, ast.Yield, ast.YieldFrom, ast.Await,
    ast.AsyncFunctionDef, ast.AsyncFor, ast.AsyncWith, ast.SetComp, ast.DictComp, ast.GeneratorExp, ast.NamedExpr,
    ast.Starred, ast.Div, ast.Import, ast.AnnAssign,
)


def trees():
    return [(path, ast.parse(path.read_text("utf-8"))) for path in FILES]


def nodes(*kinds):
    return [(path.name, node) for path, tree in trees() for node in ast.walk(tree) if isinstance(node, kinds)]


def own_methods():
    return {part.name for name, node in nodes(ast.ClassDef) for part in node.body if isinstance(part, ast.FunctionDef)}


def own_values():
    return {node.attr for name, node in nodes(ast.Attribute) if isinstance(node.ctx, ast.Store)}


def names_of_file(tree):
    """The classes and the imports of a file."""
    found = [node.name for node in tree.body if isinstance(node, ast.ClassDef)]
    for node in tree.body:
        if isinstance(node, ast.ImportFrom):
            found.extend(alias.name for alias in node.names)
    return found


class LanguageTest(unittest.TestCase):
    def test_files(self):
        self.assertIn(PACKAGE / "__init__.py", FILES)
        for path in FILES:
            self.assertRegex(path.name, r"^(__init__|[a-z][a-z0-9_]*)\.py$")
            self.assertNotIn(path.stem, dir(builtins))

    def test_signs_and_sizes(self):
        for path in FILES:
            text = path.read_bytes().decode("ascii")
            self.assertRegex(text, r"\A[ -~\n]*\Z")
            rows = text.split("\n")
            self.assertLessEqual(len(rows), 400)
            self.assertLessEqual(max(len(row) for row in rows), 120)
            words = re.findall(r"\w+", text)
            for word in words:
                self.assertNotIn(word, BANNED_WORDS)
                self.assertFalse(any(part in word for part in BANNED_PARTS))

    def test_no_form_that_is_ruled_out(self):
        for name, node in nodes(*BANNED_FORMS):
            self.fail(f"{name}:{node.lineno}: {node.__class__.__name__}")
        for name, node in nodes(ast.Constant):
            self.assertNotIsInstance(node.value, (float, bytes, complex), name)
        for name, node in nodes(ast.For, ast.While):
            self.assertEqual(node.orelse, [], name)
        for name, node in nodes(ast.Try):
            self.assertEqual(node.finalbody, [], name)
        for name, node in nodes(ast.Assign):
            self.assertEqual(len(node.targets), 1, name)
        for name, node in nodes(ast.ListComp):
            self.assertEqual(len(node.generators), 1, name)
            self.assertLessEqual(len(node.generators[0].ifs), 1, name)

    def test_powers_have_a_written_exponent(self):
        for name, node in nodes(ast.BinOp):
            if isinstance(node.op, ast.Pow):
                self.assertIsInstance(node.right, ast.Constant, f"{name}:{node.lineno}")

    def test_functions(self):
        for name, node in nodes(ast.FunctionDef):
            place = f"{name}:{node.lineno}"
            self.assertLessEqual(node.end_lineno - node.lineno + 1, 40, place)
            self.assertEqual(node.decorator_list, [], place)
            self.assertIsNone(node.args.vararg, place)
            self.assertIsNone(node.args.kwarg, place)
            self.assertEqual(node.args.kwonlyargs + node.args.posonlyargs, [], place)
            self.assertTrue(node.name in METHODS or not node.name.startswith("_"), place)

    def test_classes(self):
        for name, node in nodes(ast.ClassDef):
            self.assertEqual((node.decorator_list, node.keywords), ([], []), name)
            self.assertLessEqual(len(node.bases), 1, name)
            for part in node.body:
                self.assertIsInstance(part, (ast.FunctionDef, ast.Pass), f"{name}:{part.lineno}")

    def test_of_a_class_nothing_but_init_is_drawn(self):
        classes = [node.name for name, node in nodes(ast.ClassDef)]
        for name, node in nodes(ast.Attribute):
            if isinstance(node.value, ast.Name) and node.value.id in classes:
                self.assertEqual(node.attr, "__init__", f"{name}:{node.lineno}")

    def test_no_name_is_a_method_and_a_value(self):
        self.assertEqual(own_methods() & own_values(), set())

    def test_own_methods_and_values_are_called_like_none_of_python(self):
        for name in (own_methods() | own_values()) - set(METHODS):
            self.assertNotIn(name, PYTHON_VALUES)

    def test_methods_that_are_called(self):
        allowed = PYTHON_METHODS | own_methods()
        for name, node in nodes(ast.Call):
            if isinstance(node.func, ast.Attribute):
                self.assertIn(node.func.attr, allowed, f"{name}:{node.lineno}")

    def test_no_percent_sign_within_a_text(self):
        for name, node in nodes(ast.Constant):
            if isinstance(node.value, str):
                self.assertNotIn("%", node.value, f"{name}:{node.lineno}")

    def test_no_local_is_called_like_a_class_or_an_import(self):
        for path, tree in trees():
            taken = names_of_file(tree)
            for node in ast.walk(tree):
                if isinstance(node, ast.arg):
                    self.assertNotIn(node.arg, taken, f"{path.name}:{node.lineno}")
                if isinstance(node, ast.Name) and isinstance(node.ctx, ast.Store):
                    self.assertNotIn(node.id, taken, f"{path.name}:{node.lineno}")

    def test_imports(self):
        modules = ["heedwise." + path.stem for path in FILES]
        for name, node in nodes(ast.ImportFrom):
            self.assertEqual(node.level, 0, name)
            self.assertIn(node.module, modules, name)
            self.assertNotIn("*", [alias.name for alias in node.names], name)

    def test_names(self):
        for name, node in nodes(ast.Name):
            place = f"{name}:{node.lineno}: {node.id}"
            self.assertFalse(node.id.startswith("_"), place)
            if node.id in dir(builtins):
                self.assertIn(node.id, OWN_NAMES, place)
                self.assertIsInstance(node.ctx, ast.Load, place)
        for name, node in nodes(ast.arg):
            self.assertNotIn(node.arg, dir(builtins), name)

    def test_is_stands_beside_none_and_truths_alone(self):
        for name, node in nodes(ast.Compare):
            for sign, right in zip(node.ops, node.comparators):
                if isinstance(sign, (ast.Is, ast.IsNot)):
                    self.assertIsInstance(right, ast.Constant, f"{name}:{node.lineno}")
                    self.assertIn(right.value, (None, True, False))

    def test_no_two_files_draw_from_one_another(self):
        drawn = {"heedwise." + path.stem: [] for path in FILES}
        for path, tree in trees():
            for node in ast.walk(tree):
                if isinstance(node, ast.ImportFrom):
                    drawn["heedwise." + path.stem].append(node.module)
        while drawn:
            free = [module for module in drawn if not any(other in drawn for other in drawn[module])]
            self.assertTrue(free, f"round and round: {sorted(drawn)}")
            for module in free:
                del drawn[module]


if __name__ == "__main__":
    unittest.main()
