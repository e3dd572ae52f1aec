"""Those rules of LANGUAGE.md that a walk over the package's files can see."""

import ast
import pathlib
import re
import unittest

PACKAGE = pathlib.Path(__file__).resolve().parent.parent / "nearposts"

NODES = """
Module ImportFrom alias FunctionDef Lambda ClassDef arguments arg Return Assign AugAssign For While If Raise Try
ExceptHandler Expr Pass Break Continue BoolOp And Or BinOp Add Sub Mult FloorDiv Mod Pow LShift RShift BitOr BitXor
BitAnd UnaryOp Invert Not UAdd USub IfExp Dict Set ListComp comprehension Compare Eq NotEq Lt LtE Gt GtE Is IsNot In
NotIn Call keyword FormattedValue JoinedStr Constant Attribute Subscript Slice Name List Tuple Load Store
""".split()
OWN_NAMES = """
len range enumerate zip min max sum abs sorted reversed int str bool list tuple dict set frozenset isinstance ord repr
any all divmod Exception ValueError TypeError KeyError IndexError LookupError ZeroDivisionError ArithmeticError
OverflowError RuntimeError NotImplementedError AttributeError StopIteration
""".split()
DOUBLE = ("__init__", "__eq__", "__repr__", "__str__", "__len__")
WORDS = """
type typing typing_extensions enum Enum IntEnum StrEnum Flag IntFlag Generic Protocol ABC ABCMeta namedtuple
NamedTuple TypedDict TYPE_CHECKING abstractmethod
""".split()
PARTS = ("dataclass", "overload", "contextmanager")
METHODS_LEFT_OUT = """
register mro elements open input version_info with_traceback add_note format format_map sort capitalize casefold
center encode expandtabs isdecimal isidentifier isnumeric isprintable istitle maketrans removeprefix removesuffix
rindex swapcase translate popitem fromkeys as_integer_ratio to_bytes from_bytes bit_count
""".split()

METHODS = """
append clear copy count endswith extend find get index insert isalnum isalpha isdigit islower isspace isupper items
join keys ljust lower lstrip partition pop remove replace reverse rfind rjust rpartition rsplit rstrip setdefault split
splitlines startswith strip update upper values zfill bit_length
""".split()
KEYWORDS = {
    "sorted": ("key", "reverse"),
    "min": ("key", "default"),
    "max": ("key", "default"),
    "sum": ("start",),
    "enumerate": ("start",),
    "zip": ("strict",),
}
KINDS = (str, int, list, dict, set, bytes, tuple)


def files():
    return sorted(path for path in PACKAGE.rglob("*") if path.is_file() and "__pycache__" not in path.parts)


def builtin_names():
    return dir(__builtins__) if not isinstance(__builtins__, dict) else list(__builtins__)


class LanguageTest(unittest.TestCase):
    def walk(self):
        for path in files():
            for node in ast.walk(ast.parse(path.read_text())):
                yield path.name, node

    def test_files(self):
        self.assertNotEqual(files(), [])
        for path in files():
            self.assertRegex(path.name, r"\A(__init__|__main__|[a-z][a-z0-9_]*)\.py\Z")

    def test_signs_words_and_sizes(self):
        for path in files():
            text = path.read_bytes().decode("ascii")
            self.assertRegex(text, r"\A[ -~\n]*\Z", path.name)
            self.assertLessEqual(len(text.splitlines()), 400, path.name)
            for line in text.splitlines():
                self.assertLessEqual(len(line), 120, path.name)
            for word in WORDS:
                self.assertIsNone(re.search(rf"\b{word}\b", text), (path.name, word))
            for part in PARTS:
                self.assertNotIn(part, text, path.name)

    def test_nodes(self):
        for name, node in self.walk():
            kind = node.__class__.__name__
            self.assertIn(kind, NODES, (name, getattr(node, "lineno", None)))

    def test_forms(self):
        for name, node in self.walk():
            where = (name, getattr(node, "lineno", None))
            if isinstance(node, ast.FunctionDef):
                self.assertLessEqual(node.end_lineno - node.lineno + 1, 40, where)
            if isinstance(node, (ast.FunctionDef, ast.ClassDef)):
                self.assertEqual(node.decorator_list, [], where)
            if isinstance(node, ast.arguments):
                self.assertEqual((node.vararg, node.kwarg, node.kwonlyargs, node.posonlyargs), (None, None, [], []))
            if isinstance(node, ast.Assign):
                self.assertEqual(len(node.targets), 1, where)
            if isinstance(node, (ast.For, ast.While)):
                self.assertEqual(node.orelse, [], where)
            if isinstance(node, ast.Try):
                self.assertEqual(node.finalbody, [], where)
            if isinstance(node, ast.Constant):
                self.assertNotIsInstance(node.value, (float, bytes, complex), where)
            if isinstance(node, ast.ListComp):
                self.assertEqual(len(node.generators), 1, where)
                self.assertLessEqual(len(node.generators[0].ifs), 1, where)

    def test_imports(self):
        for name, node in self.walk():
            if isinstance(node, ast.ImportFrom):
                self.assertEqual(node.level, 0, name)
                self.assertTrue(node.module.startswith("nearposts."), (name, node.module))
                self.assertNotIn("*", [each.name for each in node.names], name)

    def test_sets_are_sorted_counted_or_asked(self):
        for name, node in self.walk():
            for child in ast.iter_child_nodes(node):
                if isinstance(child, ast.Call) and isinstance(child.func, ast.Name) and child.func.id == "set":
                    where = (name, child.lineno)
                    if isinstance(node, ast.Call):
                        self.assertIn(node.func.id, ("sorted", "len"), where)
                        self.assertEqual(node.keywords, [], where)
                    else:
                        self.assertIsInstance(node, ast.Compare, where)

    def test_no_two_files_draw_from_one_another(self):
        draws = {path.stem: [] for path in files()}
        for name, node in self.walk():
            if isinstance(node, ast.ImportFrom):
                draws[name.removesuffix(".py")].append(node.module.removeprefix("nearposts."))
        while draws:
            free = [each for each in draws if not any(other in draws for other in draws[each])]
            self.assertNotEqual(free, [], draws)
            for each in free:
                draws.pop(each)

    def test_names(self):
        left_out = [each for each in builtin_names() if each not in OWN_NAMES]
        for name, node in self.walk():
            where = (name, getattr(node, "lineno", None))
            bound = []
            if isinstance(node, ast.Name):
                self.assertNotIn(node.id, left_out, where)
                bound = [node.id] if isinstance(node.ctx, ast.Store) else []
            if isinstance(node, ast.arg):
                bound = [node.arg]
            for each in bound:
                self.assertNotIn(each, builtin_names(), where)
                self.assertFalse(each.startswith("_"), where)
            if isinstance(node, ast.Attribute):
                self.assertNotIn(node.attr, METHODS_LEFT_OUT, where)
                self.assertTrue(node.attr in DOUBLE or not node.attr.startswith("_"), where)
            if isinstance(node, ast.FunctionDef):
                self.assertTrue(node.name in DOUBLE or not node.name.startswith("_"), where)

    def test_methods_that_are_called(self):
        own = [each.name for name, node in self.walk() if isinstance(node, ast.ClassDef) for each in node.body
               if isinstance(each, ast.FunctionDef)]
        for name, node in self.walk():
            if isinstance(node, ast.Call) and isinstance(node.func, ast.Attribute):
                self.assertIn(node.func.attr, METHODS + own, (name, node.lineno))
                self.assertEqual(node.keywords, [], (name, node.lineno))
            if isinstance(node, ast.Call) and isinstance(node.func, ast.Name):
                for keyword in node.keywords:
                    self.assertIn(keyword.arg, KEYWORDS.get(node.func.id, ()), (name, node.lineno))

    def test_methods_and_values_of_own_classes(self):
        methods = {}
        values = {}
        for name, node in self.walk():
            if isinstance(node, ast.ClassDef):
                for each in node.body:
                    self.assertIsInstance(each, (ast.FunctionDef, ast.Pass), (name, each.lineno))
                    if isinstance(each, ast.FunctionDef) and each.name not in DOUBLE:
                        self.assertNotIn((node.name, each.name), methods)
                        methods[node.name, each.name] = each.lineno
            if isinstance(node, ast.Attribute) and isinstance(node.ctx, ast.Store):
                values[node.attr] = (name, node.lineno)
        of_python = {each for kind in KINDS for each in dir(kind)} - {"count", "index", "copy", "add"}
        names = {method for owner, method in methods}
        self.assertEqual(names & set(values), set())
        self.assertEqual((names | set(values)) & of_python, set())

    def test_locals_are_not_called_like_what_the_file_draws_or_defines(self):
        for path in files():
            tree = ast.parse(path.read_text())
            top = [each.name for each in tree.body if isinstance(each, (ast.FunctionDef, ast.ClassDef))]
            for node in tree.body:
                if isinstance(node, ast.ImportFrom):
                    top += [each.name for each in node.names]
            self.assertEqual(len(top), len(set(top)), path.name)
            for node in ast.walk(tree):
                if isinstance(node, ast.Name) and isinstance(node.ctx, ast.Store):
                    self.assertNotIn(node.id, top, (path.name, node.lineno))
                if isinstance(node, ast.arg):
                    self.assertNotIn(node.arg, top, (path.name, node.lineno))

    def test_is_stands_beside_none_true_and_false_alone(self):
        for name, node in self.walk():
            if isinstance(node, ast.Compare) and any(isinstance(each, (ast.Is, ast.IsNot)) for each in node.ops):
                self.assertIsInstance(node.comparators[-1], ast.Constant, (name, node.lineno))


if __name__ == "__main__":
    unittest.main()
