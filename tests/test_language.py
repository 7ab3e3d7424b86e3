"""Some of the rules of the language, by number, over the files of the package."""

import ast
import builtins
import pathlib
import re
import unittest

PACKAGE = pathlib.Path(__file__).resolve().parent.parent / "prefixgraft"
PATHS = sorted(path for path in PACKAGE.rglob("*") if path.is_file() and "__pycache__" not in path.parts)

BUILTINS = set(
    "len range enumerate zip min max sum abs sorted reversed int str bool list tuple dict set isinstance ord repr any"
    " all divmod map iter next super Exception ValueError TypeError KeyError IndexError LookupError ArithmeticError"
    " ZeroDivisionError OverflowError RuntimeError NotImplementedError NotImplemented True False None property".split()
)
METHODS = set(
    "append clear copy count endswith extend find get index insert isalnum isalpha isdigit islower isspace isupper"
    " items join keys ljust lower lstrip partition pop remove replace reverse rfind rjust rpartition rsplit rstrip"
    " setdefault split splitlines startswith strip update upper values zfill bit_length add discard".split()
)
LIBRARY = {
    "heapq": "heappush heappop heapify heapreplace heappushpop".split(),
    "math": "gcd lcm isqrt comb perm factorial".split(),
    "itertools": "product combinations permutations".split(),
}
NEVER = set("register mro elements open input law version_info with_traceback add_note".split())
BARRED = re.compile(
    r"\A(_wall|_pe_|_dcw_|_enum_|_cm_|_twin_re_|_lay_|_law_|_stub_|_sre|_WallAttr"
    r"|_(cold|tuplegetter|outside|record|written_out|member_names)[0-9_]*\Z)"
)
NO_WORDS = re.compile(
    r"\b(type|typing|typing_extensions|enum|Enum|IntEnum|StrEnum|Flag|IntFlag|Generic|Protocol|ABC|ABCMeta|namedtuple"
    r"|NamedTuple|TypedDict|TYPE_CHECKING|abstractmethod)\b|dataclass|overload|contextmanager|_wall"
)
# Generator expressions are allowed in places, but no longer where a class has an __eq__: lists always do.
UNUSED = (
    ast.Global, ast.AsyncFunctionDef, ast.AsyncFor, ast.AsyncWith, ast.Await, ast.Div, ast.MatMult, ast.Import,
    ast.TryStar, ast.GeneratorExp,
)


def names_of(node):
    """The names that a node binds, reads or tells."""
    told = [getattr(node, field, None) for field in ("id", "arg", "attr", "asname")]
    if isinstance(node, (ast.FunctionDef, ast.ClassDef, ast.alias, ast.ExceptHandler)):
        told.append(node.name)
    return [name for name in told if isinstance(name, str)]


class Rules(unittest.TestCase):
    def each(self, check):
        """Calls check(name, text, tree) for each file of the package."""
        for path in PATHS:
            with self.subTest(path.name):
                text = path.read_text(encoding="utf-8")
                check(path.stem, text, ast.parse(text))

    def test_there_are_files_with_plain_names_and_nothing_else(self):
        self.assertIn("__init__.py", [path.name for path in PATHS])
        for path in PATHS:
            self.assertRegex(path.name, r"\A[a-z_0-9]+\.py\Z")

    def test_l10_and_l14_sizes_and_signs(self):
        def check(_, text, tree):
            self.assertRegex(text, r"\A[ -~\n]*\Z")
            self.assertLessEqual(len(text.splitlines()), 399)
            self.assertLessEqual(max(len(line) for line in text.splitlines()), 120)
            for node in ast.walk(tree):
                if isinstance(node, ast.FunctionDef):
                    self.assertLessEqual(node.end_lineno - node.lineno + 1, 40, node.name)

        self.each(check)

    def test_l2_and_l16_imports(self):
        seen = {}

        def check(name, _, tree):
            seen[name] = []
            for node in ast.walk(tree):
                if not isinstance(node, ast.ImportFrom):
                    continue
                self.assertEqual(node.level, 0)
                if node.module in LIBRARY:
                    self.assertTrue(all(one.name in LIBRARY[node.module] and not one.asname for one in node.names))
                else:
                    self.assertRegex(node.module, r"\Aprefixgraft\.[a-z_]+\Z")
                    seen[name].append(node.module.split(".")[1])

        self.each(check)
        done = []
        while len(done) < len(seen):
            ready = [name for name in seen if name not in done and all(one in done for one in seen[name])]
            self.assertTrue(ready, "files import from each other")
            done += ready

    def test_l3_only_plain_things_at_module_level(self):
        def check(_, __, tree):
            for node in tree.body:
                docstring = isinstance(node, ast.Expr) and isinstance(node.value, ast.Constant)
                plain = isinstance(node, (ast.ImportFrom, ast.FunctionDef, ast.ClassDef, ast.Assign))
                self.assertTrue(docstring or plain, node.lineno)

        self.each(check)

    def test_l6_and_l7_what_is_not_used(self):
        def check(_, __, tree):
            for node in ast.walk(tree):
                self.assertNotIsInstance(node, UNUSED, getattr(node, "lineno", None))
                if isinstance(node, ast.Constant):
                    self.assertNotIsInstance(node.value, (float, complex))
                    self.assertNotIn("%", str(node.value))

        self.each(check)

    def test_l8_and_l25_what_is_called(self):
        methods = {
            node.name for path in PATHS for one in ast.walk(ast.parse(path.read_text()))
            if isinstance(one, ast.ClassDef) for node in one.body if isinstance(node, ast.FunctionDef)
        }

        def check(_, __, tree):
            nodes = list(ast.walk(tree))
            own = METHODS | methods
            bound = {name for node in nodes for name in names_of(node) if not isinstance(node, ast.Name)}
            bound.update(node.id for node in nodes if isinstance(node, ast.Name) and isinstance(node.ctx, ast.Store))
            for node in nodes:
                if isinstance(node, ast.Name):
                    self.assertIn(node.id, BUILTINS | bound)
                if isinstance(node, ast.Call) and isinstance(node.func, ast.Attribute):
                    self.assertIn(node.func.attr, own | {"__init__"})

        self.each(check)

    def test_l12_l15_and_l17_names(self):
        def check(_, text, tree):
            imported = [one.name for node in ast.walk(tree) if isinstance(node, ast.ImportFrom) for one in node.names]
            for node in ast.walk(tree):
                for name in names_of(node):
                    self.assertNotIn(name, NEVER)
                    self.assertIsNone(BARRED.search(name))
                    self.assertRegex(name, r"\A(_|_?[A-Za-z][A-Za-z0-9_]*|__[a-z]+__)\Z")
                if isinstance(node, (ast.Name, ast.arg)) and not isinstance(getattr(node, "ctx", None), ast.Load):
                    name = node.id if isinstance(node, ast.Name) else node.arg
                    self.assertNotIn(name, imported)
                    self.assertNotIn(name, dir(builtins))
            without_comments = re.sub(r'"""[^"]*"""|#.*', "", text)
            self.assertIsNone(NO_WORDS.search(without_comments))

        self.each(check)

    def test_l5_operators_change_nothing(self):
        def check(_, __, tree):
            for one in ast.walk(tree):
                methods = {node.name: node for node in one.body if isinstance(node, ast.FunctionDef)} \
                    if isinstance(one, ast.ClassDef) else {}
                self.assertNotIn("keys", methods)
                self.assertLessEqual("__getitem__" in methods, "__iter__" in methods)
                for name in ("__getitem__", "__contains__", "__len__", "__eq__"):
                    for node in ast.walk(methods.get(name, ast.Pass())):
                        self.assertNotIsInstance(node, (ast.Assign, ast.AugAssign, ast.Delete, ast.For, ast.While))
                if "__len__" in methods:
                    self.assertRegex(ast.unparse(methods["__len__"].body[-1]), r"\Areturn len\(.*\)\Z")

        self.each(check)

    def test_l5_what_an_index_asks_for(self):
        def check(_, text, tree):
            self.assertIsNone(re.search(r"\(type\)|Meta|metaclass=", text))
            for node in ast.walk(tree):
                if isinstance(node, ast.Attribute):
                    self.assertNotIn(node.attr, ("keys", "sort"))
                if isinstance(node, ast.Call) and isinstance(node.func, ast.Name) and node.func.id == "reversed":
                    self.assertIn(node.args[0].func.id, ("list", "tuple", "sorted", "range"))

        self.each(check)

    def test_l6_rows_of_exit(self):
        def check(_, __, tree):
            for node in ast.walk(tree):
                if isinstance(node, ast.FunctionDef) and node.name == "__exit__":
                    for row in node.body:
                        self.assertIsInstance(row, ast.Assign)
                        self.assertIsInstance(row.targets[0], ast.Attribute)
                        self.assertIsInstance(row.value, ast.Attribute)

        self.each(check)

    def test_l19_only_named_errors_are_caught(self):
        def check(_, __, tree):
            for node in ast.walk(tree):
                if isinstance(node, ast.ExceptHandler):
                    self.assertIsNotNone(node.type)
                    self.assertNotIn(ast.unparse(node.type), ("Exception", "TypeError", "RuntimeError", "()"))

        self.each(check)


if __name__ == "__main__":
    unittest.main()
