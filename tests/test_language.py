"""The plainest rules of the part of Python that the package keeps to; what needs more than a look is not here."""

import ast
import pathlib
import re
import unittest

PACKAGE = pathlib.Path(__file__).resolve().parent.parent / "seamhall"
TEXTS = {path.name: path.read_text(encoding="utf-8") for path in sorted(PACKAGE.glob("*.py"))}
TREES = {name: ast.parse(text) for name, text in TEXTS.items()}

OUT = (ast.With, ast.Match, ast.Global, ast.Nonlocal, ast.Yield, ast.YieldFrom, ast.AsyncFunctionDef, ast.Await,
       ast.GeneratorExp, ast.NamedExpr, ast.Div, ast.MatMult, ast.Import)

BUILTINS = set("""len range enumerate zip min max sum abs sorted reversed int str bool bytes list tuple dict set
frozenset isinstance ord repr any all divmod Exception ValueError TypeError KeyError IndexError LookupError
ZeroDivisionError ArithmeticError OverflowError RuntimeError NotImplementedError AttributeError
StopIteration""".split())

UNDERSCORED = {"__init__", "__eq__", "__repr__", "__str__", "__len__", "__all__", "__version__"}

WORDS_OUT = re.compile(r"\b(type|typing|typing_extensions|enum|Enum|IntEnum|StrEnum|Flag|IntFlag|Generic|Protocol|ABC"
                       r"|ABCMeta|namedtuple|NamedTuple|TypedDict|TYPE_CHECKING|abstractmethod)\b"
                       r"|dataclass|overload|contextmanager")


def names_bound(tree):
    """All names that a file gives, its defs, classes, parameters and imports too."""
    names = set()
    for node in ast.walk(tree):
        if isinstance(node, (ast.FunctionDef, ast.ClassDef)):
            names.add(node.name)
        elif isinstance(node, ast.arg):
            names.add(node.arg)
        elif isinstance(node, ast.Name) and not isinstance(node.ctx, ast.Load):
            names.add(node.id)
        elif isinstance(node, ast.alias):
            names.add(node.asname or node.name)
        elif isinstance(node, ast.ExceptHandler) and node.name:
            names.add(node.name)
    return names


def names_asked(tree):
    return {node.id for node in ast.walk(tree) if isinstance(node, ast.Name)}


class LanguageTest(unittest.TestCase):
    def test_files(self):
        self.assertIn("__init__.py", TEXTS)
        for path in PACKAGE.iterdir():
            if path.name != "__pycache__":
                self.assertRegex(path.name, r"^([a-z][a-z0-9_]*|__init__|__main__)\.py$")

    def test_sizes_and_signs(self):
        for name, tree in TREES.items():
            with self.subTest(name):
                text = TEXTS[name]
                lines = text.split("\n")
                self.assertLessEqual(len(lines), 400)
                self.assertLessEqual(max(len(line) for line in lines), 120)
                self.assertRegex(text, r"\A[ -~\n]*\Z")
                for node in ast.walk(tree):
                    if isinstance(node, ast.FunctionDef):
                        self.assertLessEqual(node.end_lineno - node.lineno + 1, 40, node.name)

    def test_words(self):
        for name, text in TEXTS.items():
            with self.subTest(name):
                self.assertIsNone(WORDS_OUT.search(text))

    def test_forms(self):
        for name, tree in TREES.items():
            with self.subTest(name):
                for node in ast.walk(tree):
                    self.assertNotIsInstance(node, OUT)
                    if isinstance(node, (ast.FunctionDef, ast.ClassDef)):
                        self.assertEqual(node.decorator_list, [], node.name)
                    if isinstance(node, ast.arguments):
                        self.assertIsNone(node.vararg)
                        self.assertIsNone(node.kwarg)
                        self.assertEqual(node.posonlyargs, [])
                    if isinstance(node, ast.Constant):
                        self.assertNotIsInstance(node.value, (float, complex))
                    if isinstance(node, ast.Starred):
                        self.assertIsInstance(node.ctx, ast.Store)
                    if isinstance(node, (ast.For, ast.While)):
                        self.assertEqual(node.orelse, [])

    def test_imports(self):
        for name, tree in TREES.items():
            with self.subTest(name):
                for node in ast.walk(tree):
                    if isinstance(node, ast.ImportFrom):
                        self.assertEqual(node.level, 0)
                        self.assertRegex(node.module, r"^(seamhall\.[a-z_]+|__future__)$")
                        self.assertNotIn("*", [alias.name for alias in node.names])

    def test_names(self):
        for name, tree in TREES.items():
            with self.subTest(name):
                bound = names_bound(tree)
                for word in bound - UNDERSCORED:
                    self.assertRegex(word, r"^[A-Za-z][A-Za-z0-9_]*$")
                self.assertEqual(sorted(names_asked(tree) - bound - BUILTINS), [])
                self.assertEqual(sorted(bound & BUILTINS), [])


if __name__ == "__main__":
    unittest.main()
