"""The plainest rules of the part of Python that the package keeps to; what needs more than a look is not here."""

import ast
import builtins
import pathlib
import re
import unittest

PACKAGE = pathlib.Path(__file__).resolve().parent.parent / "seamhall"
TEXTS = {path.name: path.read_text(encoding="utf-8") for path in sorted(PACKAGE.glob("*.py"))}
TREES = {name: ast.parse(text) for name, text in TEXTS.items()}

OUT = (ast.With, ast.Match, ast.Global, ast.Nonlocal, ast.Yield, ast.YieldFrom, ast.AsyncFunctionDef, ast.Await,
       ast.GeneratorExp, ast.NamedExpr, ast.Div, ast.MatMult, ast.Import)

BUILTINS = set("""len range enumerate zip min max sum abs sorted reversed int str bool bytes list tuple dict set
frozenset isinstance ord repr any all divmod Exception ValueError TypeError KeyError IndexError LookupError
ZeroDivisionError ArithmeticError OverflowError RuntimeError NotImplementedError AttributeError
StopIteration""".split())

UNDERSCORED = {"__init__", "__eq__", "__repr__", "__str__", "__len__", "__all__", "__version__"}

WORDS_OUT = re.compile(r"\b(type|typing|typing_extensions|enum|Enum|IntEnum|StrEnum|Flag|IntFlag|Generic|Protocol|ABC"
                       r"|ABCMeta|namedtuple|NamedTuple|TypedDict|TYPE_CHECKING|abstractmethod)\b"
                       r"|dataclass|overload|contextmanager")


METHODS = set("""append clear copy count endswith extend find get index insert isalnum isalpha isdigit islower isspace
isupper items join keys ljust lower lstrip partition pop remove replace reverse rfind rjust rpartition rsplit rstrip
setdefault split splitlines startswith strip update upper values zfill bit_length""".split())

# What may stand beside a walk that is not kept.
WALKS = {"zip", "enumerate", "reversed", "range"}


def top_names(tree):
    """The classes and the imports of a file."""
    return {node.name for node in tree.body if isinstance(node, ast.ClassDef)} | {
        alias.asname or alias.name for node in tree.body if isinstance(node, ast.ImportFrom) for alias in node.names}


def inner_names(tree):
    """All names that the defs of a file give: parameters, locals, defs within defs."""
    names = set()
    for outer in ast.walk(tree):
        if isinstance(outer, (ast.FunctionDef, ast.Lambda)):
            for node in ast.walk(outer):
                if isinstance(node, ast.FunctionDef) and node is not outer:
                    names.add(node.name)
                elif isinstance(node, ast.arg):
                    names.add(node.arg)
                elif isinstance(node, ast.Name) and not isinstance(node.ctx, ast.Load):
                    names.add(node.id)
    return names


def names_bound(tree):
    """All names that a file gives, its defs, classes, parameters and imports too."""
    names = set()
    for node in ast.walk(tree):
        if isinstance(node, (ast.FunctionDef, ast.ClassDef)):
            names.add(node.name)
        elif isinstance(node, ast.arg):
            names.add(node.arg)
        elif isinstance(node, ast.Name) and not isinstance(node.ctx, ast.Load):
            names.add(node.id)
        elif isinstance(node, ast.alias):
            names.add(node.asname or node.name)
        elif isinstance(node, ast.ExceptHandler) and node.name:
            names.add(node.name)
    return names


def names_asked(tree):
    return {node.id for node in ast.walk(tree) if isinstance(node, ast.Name)}


class LanguageTest(unittest.TestCase):
    def test_files(self):
        self.assertIn("__init__.py", TEXTS)
        for path in PACKAGE.iterdir():
            if path.name != "__pycache__":
                self.assertRegex(path.name, r"^([a-z][a-z0-9_]*|__init__|__main__)\.py$")

    def test_sizes_and_signs(self):
        for name, tree in TREES.items():
            with self.subTest(name):
                text = TEXTS[name]
                lines = text.split("\n")
                self.assertLessEqual(len(lines), 400)
                self.assertLessEqual(max(len(line) for line in lines), 120)
                self.assertRegex(text, r"\A[ -~\n]*\Z")
                for node in ast.walk(tree):
                    if isinstance(node, ast.FunctionDef):
                        self.assertLessEqual(node.end_lineno - node.lineno + 1, 40, node.name)

    def test_words(self):
        for name, text in TEXTS.items():
            with self.subTest(name):
                self.assertIsNone(WORDS_OUT.search(text))

    def test_forms(self):
        for name, tree in TREES.items():
            with self.subTest(name):
                for node in ast.walk(tree):
                    self.assertNotIsInstance(node, OUT)
                    if isinstance(node, (ast.FunctionDef, ast.ClassDef)):
                        self.assertEqual(node.decorator_list, [], node.name)
                    if isinstance(node, ast.arguments):
                        self.assertIsNone(node.vararg)
                        self.assertIsNone(node.kwarg)
                        self.assertEqual(node.posonlyargs, [])
                    if isinstance(node, ast.Constant):
                        self.assertNotIsInstance(node.value, (float, complex))
                    if isinstance(node, ast.Starred):
                        self.assertIsInstance(node.ctx, ast.Store)
                    if isinstance(node, (ast.For, ast.While)):
                        self.assertEqual(node.orelse, [])

    def test_imports(self):
        for name, tree in TREES.items():
            with self.subTest(name):
                for node in ast.walk(tree):
                    if isinstance(node, ast.ImportFrom):
                        self.assertEqual(node.level, 0)
                        self.assertRegex(node.module, r"^(seamhall\.[a-z_]+|__future__)$")
                        self.assertNotIn("*", [alias.name for alias in node.names])

    def test_names(self):
        for name, tree in TREES.items():
            with self.subTest(name):
                bound = names_bound(tree)
                for word in bound - UNDERSCORED:
                    self.assertRegex(word, r"^[A-Za-z][A-Za-z0-9_]*$")
                self.assertEqual(sorted(names_asked(tree) - bound - BUILTINS), [])
                self.assertEqual(sorted(bound & BUILTINS), [])

    def test_inner_names(self):
        for name, tree in TREES.items():
            with self.subTest(name):
                self.assertEqual(sorted(inner_names(tree) & (top_names(tree) | set(dir(builtins)))), [])

    def test_each_top_name_once(self):
        for name, tree in TREES.items():
            names = []
            for node in tree.body:
                if isinstance(node, (ast.FunctionDef, ast.ClassDef)):
                    names.append(node.name)
                elif isinstance(node, ast.ImportFrom):
                    names += [alias.asname or alias.name for alias in node.names]
                elif isinstance(node, ast.Assign):
                    names += [target.id for target in node.targets]
            with self.subTest(name):
                self.assertEqual(len(names), len(set(names)))

    def test_imports_are_used_and_come_from_the_file_that_defines_them(self):
        for name, tree in TREES.items():
            for node in tree.body:
                if isinstance(node, ast.ImportFrom):
                    source = TREES[node.module.split(".")[1] + ".py"]
                    defined = {one.name for one in source.body if isinstance(one, (ast.FunctionDef, ast.ClassDef))}
                    defined |= {one.targets[0].id for one in source.body if isinstance(one, ast.Assign)}
                    for alias in node.names:
                        with self.subTest(name, drawn=alias.name):
                            self.assertIn(alias.name, defined)
                            self.assertIn(alias.name, names_asked(tree))

    def test_no_file_draws_from_itself_in_some_steps(self):
        drawn = {name: {node.module.split(".")[1] + ".py" for node in tree.body if isinstance(node, ast.ImportFrom)}
                 for name, tree in TREES.items()}
        left = dict(drawn)
        while left:
            free = [name for name, sources in left.items() if not sources & set(left)]
            self.assertNotEqual(free, [], left)
            for name in free:
                del left[name]

    def test_is_stands_beside_none_and_truths(self):
        for name, tree in TREES.items():
            for node in ast.walk(tree):
                if isinstance(node, ast.Compare) and any(isinstance(op, (ast.Is, ast.IsNot)) for op in node.ops):
                    with self.subTest(name, line=node.lineno):
                        self.assertIsInstance(node.comparators[-1], ast.Constant)
                        self.assertIn(node.comparators[-1].value, (None, True, False))

    def test_methods(self):
        own = {node.name for tree in TREES.values() for one in tree.body if isinstance(one, ast.ClassDef)
               for node in one.body if isinstance(node, ast.FunctionDef)}
        for name, tree in TREES.items():
            for node in ast.walk(tree):
                if isinstance(node, ast.Call) and isinstance(node.func, ast.Attribute):
                    with self.subTest(name, line=node.lineno):
                        self.assertIn(node.func.attr, METHODS | own)

    def test_no_name_is_a_method_and_a_value(self):
        methods, given = [], set()
        for tree in TREES.values():
            for one in tree.body:
                if isinstance(one, ast.ClassDef):
                    methods += [node.name for node in one.body if isinstance(node, ast.FunctionDef)]
                    others = [node for node in one.body if not isinstance(node, (ast.FunctionDef, ast.Expr))]
                    self.assertEqual(others, [])
            given |= {node.attr for node in ast.walk(tree) if isinstance(node, ast.Attribute)
                      and isinstance(node.ctx, ast.Store)}
        self.assertEqual(sorted(given & set(methods)), [])
        names = [name for name in methods if name not in UNDERSCORED]
        self.assertEqual(sorted(names), sorted(set(names)))
        for kind in (str, int, list, tuple, dict, set, bytes):
            self.assertEqual(sorted((given | set(names)) & set(dir(kind))), [])

    def test_asked_values_are_given_by_some_class(self):
        given = {node.attr for tree in TREES.values() for node in ast.walk(tree)
                 if isinstance(node, ast.Attribute) and isinstance(node.ctx, ast.Store)}
        for name, tree in TREES.items():
            called = {node.func for node in ast.walk(tree) if isinstance(node, ast.Call)}
            for node in ast.walk(tree):
                if isinstance(node, ast.Attribute) and isinstance(node.ctx, ast.Load) and node not in called:
                    with self.subTest(name, line=node.lineno):
                        self.assertIn(node.attr, given)

    def test_underscored_methods_change_nothing(self):
        for name, tree in TREES.items():
            for method in ast.walk(tree):
                if isinstance(method, ast.FunctionDef) and method.name in ("__eq__", "__repr__", "__str__", "__len__"):
                    with self.subTest(name, method=method.name):
                        self.assertIsInstance(method.body[-1], ast.Return)
                        for node in ast.walk(method):
                            self.assertNotIsInstance(node, (ast.Assign, ast.AugAssign, ast.Delete))

    def test_errors_of_the_program_alone_are_taken(self):
        own = {one.name for one in TREES["errors.py"].body if isinstance(one, ast.ClassDef)}
        for name, tree in TREES.items():
            for node in ast.walk(tree):
                if isinstance(node, ast.ExceptHandler):
                    taken = node.type.elts if isinstance(node.type, ast.Tuple) else [node.type]
                    with self.subTest(name, line=node.lineno):
                        self.assertLessEqual({one.id for one in taken}, own)

    def test_walks_are_not_kept(self):
        for name, tree in TREES.items():
            for node in ast.walk(tree):
                if isinstance(node, (ast.Assign, ast.AugAssign, ast.Return)) and isinstance(node.value, ast.Call):
                    asked = node.value.func
                    with self.subTest(name, line=node.lineno):
                        self.assertNotIn(asked.id if isinstance(asked, ast.Name) else asked.attr,
                                         WALKS | {"items", "keys", "values"})


if __name__ == "__main__":
    unittest.main()
