"""The form of the package's own files: those of the rules L1 to L28 that a plain walk through the code can check."""

import ast
import builtins
import pathlib
import re
import unittest

PACKAGE = pathlib.Path(__file__).resolve().parent.parent / "letterrack"
FILES = sorted(PACKAGE.glob("*.py"))

OWN_NAMES = set(
    "len range enumerate zip min max sum abs sorted reversed int str bool list tuple dict set frozenset isinstance"
    " ord repr any all divmod Exception ValueError TypeError KeyError IndexError LookupError ZeroDivisionError"
    " ArithmeticError OverflowError RuntimeError NotImplementedError AttributeError StopIteration".split()
)
OWN_METHODS = set(
    "append clear copy count endswith extend find get index insert isalnum isalpha isdigit islower isspace isupper"
    " items join keys ljust lower lstrip partition pop remove replace reverse rfind rjust rpartition rsplit rstrip"
    " setdefault split splitlines startswith strip update upper values zfill bit_length".split()
)
DOUBLE_METHODS = {"__init__", "__eq__", "__repr__", "__str__", "__len__"}
NO_VALUES = set(
    "items keys values pop update append clear extend insert remove reverse setdefault sort args encode format".split()
)
NO_NAMES = set("register mro elements open input version_info with_traceback add_note format format_map".split())
NO_WORDS = re.compile(
    r"\b(type|typing|typing_extensions|enum|Enum|IntEnum|StrEnum|Flag|IntFlag|Generic|Protocol|ABC|ABCMeta|namedtuple"
    r"|NamedTuple|TypedDict|TYPE_CHECKING|abstractmethod)\b|dataclass|overload|contextmanager"
)
NO_FILES = set("test tests testing site conftest sitecustomize usercustomize".split()) | set(dir(builtins))
WALKED = {"zip", "enumerate", "reversed", "range"}
STATEMENTS = (
    ast.FunctionDef, ast.ClassDef, ast.Assign, ast.AugAssign, ast.If, ast.While, ast.For, ast.Return, ast.Break,
    ast.Continue, ast.Pass, ast.Raise, ast.Try, ast.Expr, ast.ImportFrom,
)
EXPRESSIONS = (
    ast.Constant, ast.Name, ast.List, ast.Tuple, ast.Dict, ast.Set, ast.BinOp, ast.UnaryOp, ast.BoolOp, ast.Compare,
    ast.IfExp, ast.Call, ast.Attribute, ast.Subscript, ast.Slice, ast.ListComp, ast.JoinedStr, ast.FormattedValue,
    ast.Lambda,
)


def is_docstring(node):
    return isinstance(node, ast.Expr) and isinstance(node.value, ast.Constant) and isinstance(node.value.value, str)


def parents_of(tree):
    return {child: node for node in ast.walk(tree) for child in ast.iter_child_nodes(node)}


def of_kind(tree, kind):
    return [node for node in ast.walk(tree) if isinstance(node, kind)]


def bound_names(tree):
    names = [node.id for node in of_kind(tree, ast.Name) if isinstance(node.ctx, ast.Store)]
    names += [node.arg for node in of_kind(tree, ast.arg)]
    names += [node.name for node in of_kind(tree, ast.ExceptHandler) if node.name]
    return names


def values_of(tree):
    return {node.attr for node in of_kind(tree, ast.Attribute) if isinstance(node.ctx, ast.Store)}


def methods_of(tree):
    parts = [part for node in of_kind(tree, ast.ClassDef) for part in node.body]
    return {part.name for part in parts if isinstance(part, ast.FunctionDef)}


class TestForm(unittest.TestCase):
    def setUp(self):
        self.texts = {path.name: path.read_bytes().decode("utf-8") for path in FILES}
        self.trees = {name: ast.parse(text) for name, text in self.texts.items()}

    def for_each(self, kind, check):
        for name, tree in self.trees.items():
            for node in of_kind(tree, kind):
                with self.subTest(file=name, line=node.lineno):
                    check(name, node)

    def test_files(self):
        self.assertIn("__init__.py", self.texts)
        for path in PACKAGE.iterdir():
            if path.name == "__pycache__":
                continue
            with self.subTest(path=path.name):
                self.assertTrue(path.is_file())
                self.assertRegex(path.name, r"^(__init__|__main__|[a-z][a-z0-9_]*)\.py$")
                self.assertNotIn(path.stem, NO_FILES)
                self.assertFalse(path.stem.startswith("test_"))

    def test_signs_and_words(self):
        for name, text in self.texts.items():
            rows = text.split("\n")
            self.assertLessEqual(len(rows), 400, name)
            for at, row in enumerate(rows, start=1):
                with self.subTest(file=name, line=at):
                    self.assertTrue(all(" " <= sign <= "~" for sign in row))
                    self.assertLessEqual(len(row), 120)
                    self.assertIsNone(NO_WORDS.search(row))

    def test_functions_are_small(self):
        def check(name, node):
            self.assertLessEqual(node.end_lineno - node.lineno + 1, 40)

        self.for_each(ast.FunctionDef, check)

    def test_the_top_of_a_module(self):
        for name, tree in self.trees.items():
            self.assertTrue(is_docstring(tree.body[0]), name)
            bound = []
            for node in tree.body[1:]:
                self.assertIsInstance(node, (ast.ImportFrom, ast.FunctionDef, ast.ClassDef, ast.Assign), name)
                bound += [node.name] if hasattr(node, "name") else []
                bound += bound_names(node) if isinstance(node, ast.Assign) else []
                bound += [one.name for one in node.names] if isinstance(node, ast.ImportFrom) else []
            self.assertEqual(sorted(bound), sorted(set(bound)), name)

    def test_imports(self):
        drawn = {name: set() for name in self.trees}

        def check(name, node):
            self.assertEqual(node.level, 0)
            self.assertRegex(node.module, r"^letterrack\.[a-z_0-9]+$")
            source = node.module.split(".")[1] + ".py"
            drawn[name].add(source)
            defined = [part.name for part in self.trees[source].body if hasattr(part, "name")]
            for part in self.trees[source].body:
                defined += bound_names(part) if isinstance(part, ast.Assign) else []
            for one in node.names:
                self.assertIn(one.name, defined)

        self.for_each(ast.ImportFrom, check)
        while drawn:
            free = [name for name in drawn if not drawn[name] & set(drawn)]
            self.assertTrue(free, f"drawn from one another: {sorted(drawn)}")
            drawn = {name: drawn[name] for name in drawn if name not in free}

    def test_functions(self):
        def check(name, node):
            given = node.args
            self.assertFalse(given.vararg or given.kwarg or given.kwonlyargs or given.posonlyargs)
            self.assertFalse(getattr(node, "decorator_list", []))
            self.assertFalse([one for one in given.args if one.annotation])

        self.for_each((ast.FunctionDef, ast.Lambda), check)

    def test_classes(self):
        def check(name, node):
            self.assertIn(node, self.trees[name].body)
            self.assertLessEqual(len(node.bases), 1)
            self.assertFalse(node.keywords or node.decorator_list)
            names = [part.name for part in node.body if isinstance(part, ast.FunctionDef)]
            self.assertEqual(len(names), len(set(names)))
            for part in node.body:
                self.assertIsInstance(part, (ast.FunctionDef, ast.Pass))
            for method in names:
                self.assertTrue(method in DOUBLE_METHODS or not method.startswith("_"))

        self.for_each(ast.ClassDef, check)

    def test_no_name_is_a_method_and_a_value(self):
        methods = set().union(*[methods_of(tree) for tree in self.trees.values()])
        values = set().union(*[values_of(tree) for tree in self.trees.values()])
        self.assertEqual(methods & values, set())
        self.assertEqual(values & NO_VALUES, set())

    def test_statements(self):
        def check(name, node):
            self.assertIsInstance(node, STATEMENTS)
            if isinstance(node, (ast.While, ast.For)):
                self.assertFalse(node.orelse)
            if isinstance(node, ast.Try):
                self.assertFalse(node.finalbody)
            if isinstance(node, ast.Assign):
                self.assertEqual(len(node.targets), 1)
                self.assertNotIsInstance(node.targets[0], (ast.Tuple, ast.List))
            if isinstance(node, ast.Expr):
                self.assertTrue(is_docstring(node) or isinstance(node.value, ast.Call))

        self.for_each(ast.stmt, check)

    def test_handlers(self):
        def check(name, node):
            self.assertIsNotNone(node.type)
            self.assertFalse({one.id for one in of_kind(node.type, ast.Name)} & {"Exception", "TypeError"})

        self.for_each(ast.ExceptHandler, check)

    def test_expressions(self):
        def check(name, node):
            self.assertIsInstance(node, EXPRESSIONS)
            if isinstance(node, ast.Constant):
                self.assertIsInstance(node.value, (int, str, type(None)))
                self.assertNotIn("%", str(node.value))
            if isinstance(node, ast.BinOp):
                self.assertNotIsInstance(node.op, (ast.Div, ast.MatMult))
            if isinstance(node, ast.ListComp):
                self.assertEqual(len(node.generators), 1)
                self.assertLessEqual(len(node.generators[0].ifs), 1)
            if isinstance(node, ast.Compare):
                for op, right in zip(node.ops, node.comparators):
                    if isinstance(op, (ast.Is, ast.IsNot)):
                        self.assertIn(ast.unparse(right), ("None", "True", "False"))

        self.for_each(ast.expr, check)

    def test_bound_names(self):
        for name, tree in self.trees.items():
            taken = {node.name for node in of_kind(tree, ast.ClassDef)}
            taken |= {one.name for node in of_kind(tree, ast.ImportFrom) for one in node.names}
            for bound in bound_names(tree):
                with self.subTest(file=name, bound=bound):
                    self.assertNotIn(bound, taken)
                    self.assertFalse(hasattr(builtins, bound))
                    self.assertFalse(bound.startswith("_"))
                    self.assertNotIn(bound, NO_NAMES)

    def test_names_of_pythons_own(self):
        def check(name, node):
            if hasattr(builtins, node.id):
                self.assertIn(node.id, OWN_NAMES)

        self.for_each(ast.Name, check)

    def test_attributes(self):
        def check(name, node):
            self.assertNotIn(node.attr, NO_NAMES)
            self.assertTrue(node.attr == "__init__" or not node.attr.startswith("_"))

        self.for_each(ast.Attribute, check)

    def test_called_methods(self):
        methods = set().union(*[methods_of(tree) for tree in self.trees.values()])

        def check(name, node):
            if isinstance(node.func, ast.Attribute):
                self.assertIn(node.func.attr, OWN_METHODS | methods)

        self.for_each(ast.Call, check)

    def test_walked_at_once_and_sets(self):
        for name, tree in self.trees.items():
            parents = parents_of(tree)
            for node in of_kind(tree, ast.Call):
                called = node.func.id if isinstance(node.func, ast.Name) else getattr(node.func, "attr", "")
                above = parents[node]
                within = above.func.id if isinstance(above, ast.Call) and isinstance(above.func, ast.Name) else ""
                with self.subTest(file=name, line=node.lineno):
                    if called in WALKED | {"items", "keys", "values"}:
                        joined = isinstance(above, ast.Call) and getattr(above.func, "attr", "") == "join"
                        walked = isinstance(above, (ast.For, ast.comprehension)) and above.iter is node
                        listed = set("list tuple dict sorted sum any all enumerate zip min max".split())
                        self.assertTrue(walked or joined or within in listed)
                    if called == "set":
                        told = isinstance(above, (ast.Compare, ast.BinOp)) or within in ("sorted", "len")
                        self.assertTrue(told)


    def test_keywords(self):
        keywords = {
            "sorted": {"key", "reverse"}, "min": {"key", "default"}, "max": {"key", "default"}, "sum": {"start"},
            "enumerate": {"start"}, "zip": {"strict"},
        }

        def check(name, node):
            called = node.func.id if isinstance(node.func, ast.Name) else ""
            given = {one.arg for one in node.keywords}
            if hasattr(builtins, called) or not called:
                self.assertLessEqual(given, keywords.get(called, set()))

        self.for_each(ast.Call, check)

    def test_what_stands_at_the_top_is_plain_and_only_read(self):
        for name, tree in self.trees.items():
            for node in tree.body:
                if not isinstance(node, ast.Assign):
                    continue
                kept = of_kind(node.value, (ast.List, ast.Dict, ast.Set))
                self.assertLessEqual(len(kept), 1, name)
                if kept:
                    self.check_only_read(tree, node.targets[0].id)

    def check_only_read(self, tree, bound):
        parents = parents_of(tree)
        reading = (ast.Attribute, ast.Subscript, ast.Compare, ast.For, ast.comprehension)
        for node in of_kind(tree, ast.Name):
            if node.id == bound and isinstance(node.ctx, ast.Load):
                above = parents[node]
                with self.subTest(bound=bound, line=node.lineno):
                    self.assertIsInstance(above, reading)
                    self.assertIn(getattr(above, "attr", "get"), ("get", "items", "keys", "values"))
                    self.assertIsInstance(getattr(above, "ctx", ast.Load()), ast.Load)


if __name__ == "__main__":
    unittest.main()
