"""Those rules of the program's language that can be seen from a file's form."""

import ast
import builtins
import re
import unittest
from pathlib import Path

PACKAGE = Path(__file__).resolve().parent.parent / "bellbook"

NODES = (
    "Module FunctionDef ClassDef Return Assign AugAssign For While If Raise Try ExceptHandler ImportFrom Expr Pass "
    "Break Continue arguments arg keyword alias Name Attribute Subscript Slice Constant List Tuple Dict Set BinOp "
    "UnaryOp BoolOp Compare IfExp Call Lambda ListComp comprehension JoinedStr FormattedValue Load Store "
    "Add Sub Mult FloorDiv Mod Pow BitAnd BitOr BitXor LShift RShift Invert USub UAdd Not And Or "
    "Eq NotEq Lt LtE Gt GtE Is IsNot In NotIn"
).split()

BUILTINS = (
    "len range enumerate zip min max sum abs sorted reversed int str bool list tuple dict set frozenset isinstance "
    "ord repr any all divmod Exception ValueError TypeError KeyError IndexError LookupError ZeroDivisionError "
    "ArithmeticError OverflowError RuntimeError NotImplementedError AttributeError StopIteration"
).split()

METHODS = (
    "append clear copy count endswith extend find get index insert isalnum isalpha isdigit islower isspace isupper "
    "items join keys ljust lower lstrip partition pop remove replace reverse rfind rjust rpartition rsplit rstrip "
    "setdefault split splitlines startswith strip update upper values zfill bit_length"
).split()

WORDS = (
    r"\b(type|typing|typing_extensions|enum|Enum|IntEnum|StrEnum|Flag|IntFlag|Generic|Protocol|ABC|ABCMeta|namedtuple|"
    r"NamedTuple|TypedDict|TYPE_CHECKING|abstractmethod)\b|dataclass|overload|contextmanager"
)

NOWHERE = "register mro elements open input version_info with_traceback add_note format format_map".split()

NO_NAMES = (
    "attrgetter breakpoint builtins compile copyright credits delattr dir eval exec exit gc getattr globals hasattr "
    "help id importlib license locals methodcaller os quit setattr super type vars sys chr print __name__"
).split()

NO_VALUES = (
    "items keys values pop update append clear extend insert remove reverse setdefault sort args encode format"
).split()

OWN_DUNDERS = ["__init__", "__eq__", "__repr__", "__str__", "__len__"]


def package_files():
    return sorted(path for path in PACKAGE.rglob("*") if "__pycache__" not in path.parts)


def trees():
    return [(path.name, ast.parse(path.read_text("ascii"))) for path in package_files()]


def nodes():
    return [(name, node) for name, tree in trees() for node in ast.walk(tree)]


class LanguageTest(unittest.TestCase):
    def test_only_plain_files_lie_in_the_package(self):
        names = [path.name for path in package_files()]
        self.assertIn("__init__.py", names)
        for name in names:
            self.assertRegex(name, r"\A[a-z0-9_]+\.py\Z")

    def test_signs_and_sizes(self):
        for path in package_files():
            text = path.read_bytes().decode("utf-8")
            with self.subTest(file=path.name):
                self.assertRegex(text, r"\A[\n -~]*\Z")
                self.assertLessEqual(len(text.splitlines()), 400)
                self.assertLessEqual(max([len(row) for row in text.splitlines()], default=0), 120)
                self.assertIsNone(re.search(WORDS, text))

    def test_functions_are_short(self):
        for name, node in nodes():
            if isinstance(node, ast.FunctionDef):
                with self.subTest(file=name, function=node.name):
                    self.assertLessEqual(node.end_lineno - node.lineno + 1, 40)
                    self.assertEqual(node.decorator_list, [])
                    self.assertIsNone(node.args.vararg or node.args.kwarg)
                    self.assertEqual(node.args.kwonlyargs + node.args.posonlyargs, [])

    def test_forms(self):
        for name, node in nodes():
            with self.subTest(file=name, line=getattr(node, "lineno", 0)):
                self.assertIn(type(node).__name__, NODES)
                if isinstance(node, ast.Assign):
                    self.assertEqual(len(node.targets), 1)
                if isinstance(node, (ast.For, ast.While)):
                    self.assertEqual(node.orelse, [])
                if isinstance(node, ast.Constant):
                    self.assertIn(type(node.value), [int, str, bool, type(None)])
                    self.assertNotIn("%", str(node.value))

    def test_imports(self):
        tops = {name[:-3]: self.bound(tree) for name, tree in trees()}
        for name, node in nodes():
            if isinstance(node, ast.ImportFrom):
                with self.subTest(file=name, line=node.lineno):
                    self.assertEqual(node.level, 0)
                    package, dot, module = node.module.partition(".")
                    self.assertEqual(package, "bellbook")
                    for alias in node.names:
                        self.assertIn(alias.name, tops[module])

    def test_no_two_files_draw_from_one_another(self):
        draws = {name[:-3]: [node.module.partition(".")[2] for node in tree.body if isinstance(node, ast.ImportFrom)]
                 for name, tree in trees()}
        while draws:
            free = [name for name in draws if not any(other in draws for other in draws[name])]
            self.assertNotEqual(free, [], "files that draw from one another: " + ", ".join(draws))
            for name in free:
                draws.pop(name)

    def test_top_names_are_bound_once(self):
        for name, tree in trees():
            bound = self.bound(tree)
            with self.subTest(file=name):
                self.assertEqual(len(bound), len(set(bound)))

    def bound(self, tree):
        names = []
        for node in tree.body:
            if isinstance(node, (ast.FunctionDef, ast.ClassDef)):
                names.append(node.name)
            if isinstance(node, ast.Assign):
                names.append(node.targets[0].id)
        return names

    def test_names(self):
        for name, node in nodes():
            for word in self.words(node):
                with self.subTest(file=name, line=node.lineno, word=word):
                    if word not in OWN_DUNDERS:
                        self.assertRegex(word, r"\A[A-Za-z][A-Za-z0-9_]*\Z")
            if isinstance(node, ast.Name) and hasattr(builtins, node.id):
                with self.subTest(file=name, line=node.lineno):
                    self.assertIn(node.id, BUILTINS)
                    self.assertIsInstance(node.ctx, ast.Load)
            if isinstance(node, ast.arg):
                with self.subTest(file=name, line=node.lineno):
                    self.assertFalse(hasattr(builtins, node.arg))

    def words(self, node):
        if isinstance(node, (ast.FunctionDef, ast.ClassDef)):
            return [node.name]
        if isinstance(node, ast.Name):
            return [node.id]
        if isinstance(node, ast.Attribute):
            return [node.attr]
        if isinstance(node, ast.arg):
            return [node.arg]
        return []

    def test_names_that_are_not_used(self):
        for name, node in nodes():
            with self.subTest(file=name, line=getattr(node, "lineno", 0)):
                for word in self.words(node):
                    self.assertNotIn(word, NOWHERE)
                    if not isinstance(node, ast.Attribute):
                        self.assertNotIn(word, NO_NAMES)

    def test_methods_and_values_of_objects(self):
        methods = []
        values = []
        for name, node in nodes():
            if isinstance(node, ast.ClassDef):
                own = [part.name for part in node.body if isinstance(part, ast.FunctionDef)]
                with self.subTest(file=name, name=node.name):
                    self.assertEqual(len(own), len(set(own)))
                    self.assertLessEqual(len(node.bases), 1)
                methods += own
            if isinstance(node, ast.Attribute) and isinstance(node.ctx, ast.Store):
                values.append(node.attr)
        self.assertEqual(set(methods) & set(values), set())
        self.assertEqual(set(NO_VALUES) & set(values), set())

    def test_no_local_is_called_like_a_class_or_an_import_of_its_file(self):
        for name, tree in trees():
            taken = [node.name for node in tree.body if isinstance(node, ast.ClassDef)]
            for node in tree.body:
                if isinstance(node, ast.ImportFrom):
                    taken += [alias.asname or alias.name for alias in node.names]
            for node in ast.walk(tree):
                local = isinstance(node, ast.arg) or isinstance(getattr(node, "ctx", None), ast.Store)
                with self.subTest(file=name, line=getattr(node, "lineno", 0)):
                    self.assertFalse(local and set(self.words(node)) & set(taken))

    def test_is_stands_beside_none_true_and_false_alone(self):
        for name, node in nodes():
            if isinstance(node, ast.Compare) and any(isinstance(sign, (ast.Is, ast.IsNot)) for sign in node.ops):
                with self.subTest(file=name, line=node.lineno):
                    self.assertIsInstance(node.comparators[0], ast.Constant)
                    self.assertIn(node.comparators[0].value, [None, True, False])

    def test_methods(self):
        own = [node.name for name, node in nodes() if isinstance(node, ast.FunctionDef)]
        for name, node in nodes():
            if isinstance(node, ast.Call) and isinstance(node.func, ast.Attribute):
                with self.subTest(file=name, line=node.lineno):
                    self.assertIn(node.func.attr, METHODS + own)


if __name__ == "__main__":
    unittest.main()
