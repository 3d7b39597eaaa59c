"""The package keeps to the part of Python that it is written in: what a walk over its files can see of that."""

import ast
import builtins
import pathlib
import re
import unittest

FOLDER = pathlib.Path(__file__).resolve().parent.parent / "sackloads"

STATEMENTS = (
    ast.Assign, ast.AugAssign, ast.If, ast.While, ast.For, ast.Return, ast.Break, ast.Continue, ast.Pass, ast.Raise,
    ast.Try, ast.Expr, ast.FunctionDef, ast.ClassDef, ast.ImportFrom,
)
EXPRESSIONS = (
    ast.Constant, ast.Name, ast.List, ast.Tuple, ast.Dict, ast.Set, ast.BinOp, ast.UnaryOp, ast.BoolOp, ast.Compare,
    ast.IfExp, ast.Call, ast.Attribute, ast.Subscript, ast.Slice, ast.ListComp, ast.JoinedStr, ast.FormattedValue,
    ast.Lambda,
)
OWN_NAMES = set(
    "len range enumerate zip min max sum abs sorted reversed int str bool list tuple dict set frozenset isinstance ord "
    "repr any all divmod Exception ValueError KeyError IndexError LookupError ZeroDivisionError ArithmeticError "
    "OverflowError RuntimeError NotImplementedError StopIteration".split()
)
OWN_METHODS = set(
    "append clear copy count endswith extend find get index insert isalnum isalpha isdigit islower isspace isupper "
    "items join keys ljust lower lstrip partition pop remove replace reverse rfind rjust rpartition rsplit rstrip "
    "setdefault split splitlines startswith strip update upper values zfill bit_length".split()
)
UNDERSCORED = {"__init__", "__eq__", "__repr__", "__str__", "__len__"}
NO_WORDS = re.compile(
    r"\b(type|typing|typing_extensions|enum|Enum|IntEnum|StrEnum|Flag|IntFlag|Generic|Protocol|ABC|ABCMeta|namedtuple"
    r"|NamedTuple|TypedDict|TYPE_CHECKING|abstractmethod)\b|dataclass|overload|contextmanager"
)


def files():
    return sorted(FOLDER.glob("*.py"))


def parsed():
    for path in files():
        text = path.read_text(encoding="utf-8")
        yield path.stem, text, ast.parse(text)


def bound_names(tree):
    for node in ast.walk(tree):
        if isinstance(node, ast.Name) and isinstance(node.ctx, ast.Store):
            yield node.id
        elif isinstance(node, ast.arg):
            yield node.arg
        elif isinstance(node, (ast.FunctionDef, ast.ClassDef)):
            yield node.name


def called(call):
    return call.func.id if isinstance(call.func, ast.Name) else getattr(call.func, "attr", None)


class Language(unittest.TestCase):
    def test_only_plain_files(self):
        self.assertIn("__init__.py", [path.name for path in files()])
        for path in FOLDER.iterdir():
            if path.name != "__pycache__":
                self.assertRegex(path.name, r"^([a-z][a-z0-9_]*|__init__|__main__)\.py$")

    def test_signs_and_sizes(self):
        for stem, text, tree in parsed():
            with self.subTest(stem):
                self.assertRegex(text, r"\A[ -~\n]*\Z")
                self.assertIsNone(NO_WORDS.search(text))
                lines = text.split("\n")
                self.assertLessEqual(len(lines), 400)
                self.assertLessEqual(max(map(len, lines)), 120)
                for node in ast.walk(tree):
                    if isinstance(node, ast.FunctionDef):
                        self.assertLessEqual(node.end_lineno - node.lineno + 1, 40, node.name)

    def test_statements_and_expressions(self):
        for stem, text, tree in parsed():
            with self.subTest(stem):
                for node in ast.walk(tree):
                    if isinstance(node, ast.stmt):
                        self.assertIsInstance(node, STATEMENTS, node.lineno)
                    if isinstance(node, ast.expr):
                        self.assertIsInstance(node, EXPRESSIONS, node.lineno)
                    if isinstance(node, ast.Assign):
                        self.assertEqual(len(node.targets), 1, node.lineno)
                    if isinstance(node, (ast.For, ast.While)):
                        self.assertEqual(node.orelse, [], node.lineno)
                    if isinstance(node, ast.Constant):
                        self.assertNotIsInstance(node.value, (float, bytes, complex), node.lineno)
                        self.assertFalse(isinstance(node.value, str) and "%" in node.value, node.lineno)
                    if isinstance(node, ast.ListComp):
                        self.assertEqual(len(node.generators), 1, node.lineno)
                        self.assertLessEqual(len(node.generators[0].ifs), 1, node.lineno)
                    self.assertNotIsInstance(node, (ast.Div, ast.MatMult))
                    self.assertFalse(getattr(node, "decorator_list", []))

    def test_imports(self):
        for stem, text, tree in parsed():
            with self.subTest(stem):
                for node in tree.body:
                    if isinstance(node, ast.ImportFrom):
                        folder, dot, module = node.module.partition(".")
                        self.assertEqual((folder, node.level), ("sackloads", 0))
                        source = ast.parse((FOLDER / f"{module}.py").read_text(encoding="utf-8"))
                        top = [other for other in source.body if not isinstance(other, ast.ImportFrom)]
                        defined = [getattr(other, "name", None) for other in top]
                        defined += [other.targets[0].id for other in top if isinstance(other, ast.Assign)]
                        for name in node.names:
                            self.assertIn(name.name, defined)
                            self.assertIsNone(name.asname)
                inner = [node for node in ast.walk(tree) if isinstance(node, ast.ImportFrom)]
                self.assertEqual(inner, [node for node in tree.body if isinstance(node, ast.ImportFrom)])

    def test_no_two_files_draw_from_one_another(self):
        draws = {}
        for stem, text, tree in parsed():
            draws[stem] = [node.module.split(".")[-1] for node in tree.body if isinstance(node, ast.ImportFrom)]
        while draws:
            free = [stem for stem in draws if not any(other in draws for other in draws[stem])]
            self.assertTrue(free, draws)
            draws = {stem: draws[stem] for stem in draws if stem not in free}

    def test_names(self):
        for stem, text, tree in parsed():
            with self.subTest(stem):
                names = list(bound_names(tree))
                for name in names:
                    self.assertTrue(name in UNDERSCORED or re.fullmatch(r"[A-Za-z][A-Za-z0-9_]*", name), name)
                    self.assertFalse(hasattr(builtins, name) and name not in UNDERSCORED, name)
                for node in ast.walk(tree):
                    if isinstance(node, ast.Name) and hasattr(builtins, node.id):
                        self.assertIn(node.id, OWN_NAMES, node.lineno)

    def test_locals_are_not_called_like_what_is_imported(self):
        for stem, text, tree in parsed():
            with self.subTest(stem):
                drawn = [name.name for node in tree.body if isinstance(node, ast.ImportFrom) for name in node.names]
                self.assertEqual(sorted(set(drawn) & set(bound_names(tree))), [])

    def test_methods(self):
        own = set()
        for stem, text, tree in parsed():
            for node in ast.walk(tree):
                if isinstance(node, ast.ClassDef):
                    own.update(part.name for part in node.body if isinstance(part, ast.FunctionDef))
        for stem, text, tree in parsed():
            with self.subTest(stem):
                for node in ast.walk(tree):
                    if isinstance(node, ast.Call) and isinstance(node.func, ast.Attribute):
                        self.assertIn(node.func.attr, OWN_METHODS | own, node.lineno)

    def test_classes(self):
        methods, kept = set(), set()
        for stem, text, tree in parsed():
            with self.subTest(stem):
                for node in ast.walk(tree):
                    if isinstance(node, ast.ClassDef):
                        self.assertIn(node, tree.body)
                        self.assertLessEqual(len(node.bases), 1)
                        for part in node.body:
                            self.assertIsInstance(part, (ast.FunctionDef, ast.Pass), node.lineno)
                        methods.update(part.name for part in node.body if isinstance(part, ast.FunctionDef))
                    if isinstance(node, ast.Attribute) and isinstance(node.ctx, ast.Store):
                        kept.add(node.attr)
        self.assertEqual(methods & kept, set())

    def test_the_top_of_a_file(self):
        for stem, text, tree in parsed():
            with self.subTest(stem):
                bound = []
                for node in tree.body[1:]:
                    self.assertIsInstance(node, (ast.ImportFrom, ast.FunctionDef, ast.ClassDef, ast.Assign), node.lineno)
                    if isinstance(node, ast.ImportFrom):
                        bound += [name.name for name in node.names]
                    elif isinstance(node, ast.Assign):
                        bound.append(node.targets[0].id)
                        ast.literal_eval(node.value)
                    else:
                        bound.append(node.name)
                self.assertEqual(len(bound), len(set(bound)))

    def test_walked_at_once(self):
        walked = {"zip", "enumerate", "reversed", "range", "items", "keys", "values"}
        takers = {"list", "tuple", "dict", "sorted", "sum", "any", "all", "enumerate", "zip", "min", "max"}
        for stem, text, tree in parsed():
            with self.subTest(stem):
                at_once = []
                for node in ast.walk(tree):
                    if isinstance(node, (ast.For, ast.comprehension)):
                        at_once.append(node.iter)
                    if isinstance(node, ast.Call) and called(node) in takers:
                        at_once.extend(node.args[:1])
                    if isinstance(node, ast.Call) and called(node) == "join":
                        self.assertIsInstance(node.func.value, ast.Constant, node.lineno)
                        at_once.extend(node.args)
                for node in ast.walk(tree):
                    if isinstance(node, ast.Call) and called(node) in walked:
                        self.assertIn(node, at_once, node.lineno)

    def test_keywords(self):
        allowed = {"sorted": {"key", "reverse"}, "min": {"key", "default"}, "max": {"key", "default"},
                   "sum": {"start"}, "enumerate": {"start"}, "zip": {"strict"}}
        for stem, text, tree in parsed():
            with self.subTest(stem):
                for node in ast.walk(tree):
                    if isinstance(node, ast.Call):
                        for keyword in node.keywords:
                            self.assertIn(keyword.arg, allowed.get(called(node), ()), node.lineno)

    def test_is_stands_beside_none_true_and_false(self):
        for stem, text, tree in parsed():
            with self.subTest(stem):
                for node in ast.walk(tree):
                    if isinstance(node, ast.Compare) and isinstance(node.ops[0], (ast.Is, ast.IsNot)):
                        beside = node.comparators[0]
                        self.assertIsInstance(beside, ast.Constant, node.lineno)
                        self.assertTrue(beside.value is None or isinstance(beside.value, bool), node.lineno)


if __name__ == "__main__":
    unittest.main()
