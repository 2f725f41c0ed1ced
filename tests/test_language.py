"""The rules of LANGUAGE.md that can be read off the files of the package."""

import ast
import builtins
import re
from pathlib import Path
from unittest import TestCase

FOLDER = Path(__file__).resolve().parent.parent / "lanerules"
FILES = sorted(path for path in FOLDER.iterdir() if path.name != "__pycache__")
BUILTINS = set("""len range enumerate zip min max sum abs sorted reversed int str bool bytes list tuple
    dict set isinstance ord repr any all divmod iter next super property staticmethod classmethod
    Exception ValueError TypeError KeyError IndexError LookupError ZeroDivisionError ArithmeticError
    OverflowError RuntimeError NotImplementedError AttributeError NotImplemented""".split())
BARRED_WORDS = """type typing typing_extensions enum Enum IntEnum StrEnum Flag IntFlag Generic Protocol
    ABC ABCMeta namedtuple NamedTuple TypedDict TYPE_CHECKING abstractmethod""".split()
BARRED_NAMES = """register mro elements open input law version_info with_traceback add_note eval exec
    compile getattr setattr delattr hasattr globals locals vars dir id help exit quit os gc
    hash map filter round format""".split()
DECORATORS = ("property", "staticmethod", "classmethod")


def trees():
    return [(path, ast.parse(path.read_text())) for path in FILES]


def nodes(*kinds):
    return [(path, node) for path, tree in trees() for node in ast.walk(tree) if isinstance(node, kinds)]


def bound_names(node):
    if isinstance(node, ast.Name) and not isinstance(node.ctx, ast.Load):
        return [node.id]
    if isinstance(node, (ast.FunctionDef, ast.ClassDef)):
        return [node.name]
    return [node.arg] if isinstance(node, ast.arg) else []


class TestLanguage(TestCase):
    def test_files(self):
        for path in FILES:
            self.assertRegex(path.name, r"^[a-z0-9_]+\.py$")
            text = path.read_text()
            self.assertEqual(re.findall(r"[^\n -~]", text), [], path)
            self.assertLessEqual(len(text.splitlines()), 399, path)
            self.assertLessEqual(max([len(line) for line in text.splitlines()]), 120, path)
            for word in BARRED_WORDS:
                self.assertIsNone(re.search(rf"\b{word}\b", text), (path, word))
            self.assertIsNone(re.search("dataclass|overload|contextmanager", text), path)

    def test_module_level(self):
        allowed = (ast.ImportFrom, ast.FunctionDef, ast.ClassDef, ast.Assign)
        for path, tree in trees():
            self.assertIsNotNone(ast.get_docstring(tree), path)
            if path.name != "__main__.py":
                self.assertEqual([row for row in tree.body[1:] if not isinstance(row, allowed)], [])

    def test_imports(self):
        for path, node in nodes(ast.Import, ast.ImportFrom):
            if path.name == "__main__.py" and isinstance(node, ast.Import):
                continue
            self.assertIsInstance(node, ast.ImportFrom)
            self.assertTrue(node.level == 0 and node.module.startswith("lanerules."), path)
            source = ast.parse((FOLDER / (node.module.split(".")[1] + ".py")).read_text())
            defined = [name for row in ast.walk(source) for name in bound_names(row)]
            for name in node.names:
                self.assertIn(name.name, defined, path)

    def test_functions(self):
        for path, node in nodes(ast.FunctionDef):
            self.assertLessEqual(node.end_lineno - node.lineno + 1, 40, (path, node.name))
            for decorator in node.decorator_list:
                self.assertIn(ast.unparse(decorator), DECORATORS)

    def test_names(self):
        for path, node in nodes(ast.AST):
            for name in bound_names(node):
                operator = isinstance(node, ast.FunctionDef) and re.fullmatch("__[a-z]+__", name)
                self.assertTrue(operator or not name.startswith("_"), (path, name))
                self.assertFalse(not operator and hasattr(builtins, name), (path, name))
                self.assertNotIn(name, BARRED_NAMES, path)

    def test_builtins(self):
        for path, node in nodes(ast.Name):
            if hasattr(builtins, node.id) and node.id not in ("print", "__name__"):
                self.assertIn(node.id, BUILTINS, (path, node.lineno))

    def test_statements_and_expressions(self):
        self.assertEqual(nodes(ast.Global, ast.AsyncFunctionDef, ast.Await, ast.Div, ast.MatMult), [])
        for path, node in nodes(ast.Constant):
            self.assertNotIsInstance(node.value, float)
            self.assertFalse(isinstance(node.value, str) and "%" in node.value, (path, node.lineno))

    def test_lists_where_a_class_has_operators(self):
        # Classes have operators, so these builtins take a list instead of a generator expression.
        for path, node in nodes(ast.Call):
            if ast.unparse(node.func) in ("sum", "min", "max", "sorted", "any", "all"):
                found = [value for value in node.args if isinstance(value, ast.GeneratorExp)]
                self.assertEqual(found, [], (path, node.lineno))

    def test_identity_is_asked_only_of_three_values(self):
        for path, node in nodes(ast.Compare):
            for operator, right in zip(node.ops, node.comparators):
                if isinstance(operator, (ast.Is, ast.IsNot)):
                    self.assertIn(ast.unparse(right), ("None", "True", "False"), (path, node.lineno))

    def test_errors_are_created_where_they_are_raised(self):
        for path, node in nodes(ast.Raise):
            self.assertTrue(node.exc is None or isinstance(node.exc, ast.Call), (path, node.lineno))

    def test_no_name_is_a_method_and_an_attribute(self):
        methods = {row.name for path, node in nodes(ast.ClassDef) for row in node.body
                   if isinstance(row, ast.FunctionDef)}
        stored = {node.attr for path, node in nodes(ast.Attribute) if isinstance(node.ctx, ast.Store)}
        self.assertEqual(methods & stored, set())
