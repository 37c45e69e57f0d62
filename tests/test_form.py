"""The form of the package: the interface stands where it is listed, and the main rules of the language hold."""

import ast
import builtins
import inspect
import pathlib
import unittest
import warnings

from partlymet import benches, books, compare, contracts, errors, lines, needs, programs

FOLDER = pathlib.Path(__file__).resolve().parent.parent / "partlymet"
BUILTINS = set("""len range enumerate zip min max sum abs sorted reversed int str bool list tuple dict set isinstance ord
repr any all divmod iter next super ValueError TypeError KeyError NotImplemented Exception property""".split())
# The examples, which are run as at a prompt, leave a `_` among the builtins.
ALL_BUILTINS = set(dir(builtins)) - {"_"}
METHODS = set("""append clear copy count endswith extend find get index insert isalnum isalpha isdigit islower isspace
isupper items join keys ljust lower lstrip partition pop remove replace reverse rfind rjust rpartition rsplit rstrip
setdefault split splitlines startswith strip update upper values zfill bit_length""".split())
LIBRARY = {
    "heapq": ("heappush", "heappop", "heapify"), "math": ("gcd", "lcm", "isqrt", "comb"),
    "collections": ("defaultdict", "deque"),
}
SPECIAL = set("""__init__ __eq__ __repr__ __str__ __len__ __enter__ __exit__ __call__ __iter__ __add__ __mul__ __and__
__contains__ __getitem__ __setitem__""".split())
BARRED = (
    ast.AsyncFunctionDef, ast.AsyncFor, ast.AsyncWith, ast.Await, ast.Global, ast.GeneratorExp, ast.Lambda, ast.Div,
    ast.MatMult, ast.AnnAssign,
)
WORDS = "mro elements open input law eval exec id type vars dir help exit sys os".split()
INTERFACE = {
    contracts: {"Contract": "keeps broken nearest __len__ __iter__ follows idle __and__ implies same"},
    programs: {
        "Program": "run __call__ steps reads writes __add__ __mul__ __eq__",
        "Outcome": "changed __getitem__ __contains__ __len__ __eq__",
    },
    compare: {"parting": "", "alike": "", "bad_distances": ""},
    lines: {"idle_lines": "", "sources": "", "may_swap": "", "copy_ways": "", "thinned": ""},
    needs: {"needs": "", "stuck": "", "guarded": ""},
    books: {
        "Function": "__init__", "Book": "__init__ __setitem__ __getitem__ __contains__ __len__ names read",
        "broken_calls": "", "may_replace": "", "kept_needs": "", "left_out": "",
    },
    benches: {"Bench": "__init__ first now facts change drop swap turn assume release used undo attempt"},
}


def trees():
    """The files of the package and what they say."""
    for path in sorted(FOLDER.rglob("*.py")):
        yield path, path.read_text(), ast.parse(path.read_text())


def name_parts(node):
    """All names that a node binds or uses."""
    for part in ast.walk(node):
        for field in ("id", "attr", "arg", "name"):
            word = getattr(part, field, None)
            if isinstance(word, str):
                yield part, word


class Interface(unittest.TestCase):
    def test_everything_is_defined_in_its_file(self):
        for module, things in INTERFACE.items():
            for name, methods in things.items():
                with self.subTest(name):
                    thing = vars(module)[name]
                    self.assertEqual(thing.__module__, module.__name__)
                    for method in methods.split():
                        self.assertIn(method, vars(thing))

    def test_arguments(self):
        for call, expected in (
            (contracts.Contract, "(pointers, text)"), (programs.Program, "(pointers, text)"),
            (compare.parting, "(p, q, *, under=None)"), (compare.alike, "(p, q, *, under=None)"),
            (compare.bad_distances, "(p, q, low, high, *, under=None)"),
            (lines.idle_lines, "(program, *, under=None)"), (lines.sources, "(program, line, *, under=None)"),
            (lines.may_swap, "(program, line, *, under=None)"), (lines.copy_ways, "(program, line, *, under=None)"),
            (lines.thinned, "(program, *, under=None)"), (needs.needs, "(p, q, options, *, under=None)"),
            (needs.stuck, "(p, q, options, *, under=None)"), (needs.guarded, "(p, q, options, *, under=None)"),
            (books.Function, "(program, needed)"), (books.Book, "()"), (books.Book.read, "(self, pointers, text)"),
            (books.broken_calls, "(program, *, under=None)"), (books.may_replace, "(f, g)"),
            (books.kept_needs, "(book, roots)"), (books.left_out, "(book, roots)"),
            (benches.Bench, "(program, facts)"), (benches.Bench.change, "(self, program)"),
            (benches.Bench.drop, "(self, line)"), (benches.Bench.swap, "(self, line)"),
            (benches.Bench.turn, "(self, line, word)"), (benches.Bench.assume, "(self, text)"),
            (benches.Bench.release, "(self, index)"), (benches.Bench.attempt, "(self, action)"),
            (benches.Bench.used, "(self)"), (benches.Bench.undo, "(self)"),
        ):
            self.assertEqual(str(inspect.signature(call)), expected)


class Language(unittest.TestCase):
    def test_files(self):
        found = [path for path in FOLDER.rglob("*") if "__pycache__" not in path.parts]
        self.assertEqual([path for path in found if path.suffix != ".py"], [])
        for path, text, _ in trees():
            with self.subTest(path.name):
                self.assertRegex(path.stem, "^(__init__|__main__|[a-z][a-z0-9_]*)$")
                self.assertFalse(path.stem in ALL_BUILTINS)
                self.assertLessEqual(text.count("\n"), 399)
                self.assertEqual([line for line in text.split("\n") if len(line) > 120], [])
                self.assertTrue(all(sign == "\n" or " " <= sign <= "~" for sign in text))

    def test_no_warnings(self):
        for path, text, _ in trees():
            with self.subTest(path.name), warnings.catch_warnings():
                warnings.simplefilter("error")
                compile(text, path, "exec")

    def test_functions_are_short(self):
        for path, _, tree in trees():
            for node in ast.walk(tree):
                if isinstance(node, ast.FunctionDef):
                    with self.subTest((path.name, node.name)):
                        self.assertLessEqual(node.end_lineno - node.lineno + 1, 40)
                        self.assertEqual([row for row in node.decorator_list if ast.unparse(row) != "property"], [])
                        if node.name.startswith("__"):
                            self.assertIn(node.name, SPECIAL)

    def test_statements_and_expressions(self):
        for path, _, tree in trees():
            for node in ast.walk(tree):
                with self.subTest((path.name, getattr(node, "lineno", 0))):
                    self.assertNotIsInstance(node, BARRED)
                    if isinstance(node, ast.Constant):
                        self.assertNotIsInstance(node.value, (float, complex, bytes))
                        self.assertNotIn("%", str(node.value))
                    if isinstance(node, ast.Compare) and any(isinstance(op, (ast.Is, ast.IsNot)) for op in node.ops):
                        self.assertIn(ast.unparse(node.comparators[0]), ("None", "True", "False"))
                    if isinstance(node, ast.Raise):
                        self.assertIsInstance(node.exc, ast.Call)
                    for handler in getattr(node, "handlers", []):
                        self.assertIn(ast.unparse(handler.type), vars(errors))

    def test_module_level_is_plain(self):
        kinds = (ast.Import, ast.ImportFrom, ast.FunctionDef, ast.ClassDef, ast.Assign)
        for path, _, tree in trees():
            bound = []
            for at, node in enumerate(tree.body):
                with self.subTest((path.name, node.lineno)):
                    if at == 0 and isinstance(node, ast.Expr):
                        self.assertIsInstance(node.value.value, str)
                        continue
                    self.assertIsInstance(node, kinds)
                    bound += [row.asname or row.name for row in getattr(node, "names", [])]
                    bound += [target.id for target in getattr(node, "targets", [])]
                    bound += [node.name] if hasattr(node, "name") else []
            self.assertEqual(len(bound), len(set(bound)))

    def test_imports(self):
        defined = {}
        for path, _, tree in trees():
            names = [node.name for node in tree.body if hasattr(node, "name")]
            names += [target.id for node in tree.body for target in getattr(node, "targets", [])]
            defined["partlymet." + path.stem] = names
        for path, _, tree in trees():
            for node in ast.walk(tree):
                self.assertNotIsInstance(node, ast.Import)
                if isinstance(node, ast.ImportFrom):
                    with self.subTest((path.name, node.module)):
                        self.assertEqual(node.level, 0)
                        known = LIBRARY.get(node.module) or defined[node.module]
                        self.assertEqual([row.name for row in node.names if row.name not in known], [])

    def test_names(self):
        for path, _, tree in trees():
            taken = {node.name for node in tree.body if isinstance(node, ast.ClassDef)}
            taken |= {row.name for node in tree.body if isinstance(node, ast.ImportFrom) for row in node.names}
            for node, word in name_parts(tree):
                with self.subTest((path.name, word)):
                    self.assertNotIn(word, WORDS)
                    stored = isinstance(node, ast.arg) or isinstance(getattr(node, "ctx", None), ast.Store)
                    if stored and not isinstance(node, ast.Attribute):
                        self.assertNotIn(word, taken)
                        self.assertFalse(word in ALL_BUILTINS)
                    if isinstance(node, ast.Name) and word in ALL_BUILTINS:
                        self.assertIn(word, BUILTINS)

    def test_methods_of_builtin_values(self):
        own = {node.name for _, _, tree in trees() for node in ast.walk(tree) if isinstance(node, ast.FunctionDef)}
        for path, _, tree in trees():
            for node in ast.walk(tree):
                if isinstance(node, ast.Call) and isinstance(node.func, ast.Attribute):
                    with self.subTest((path.name, node.lineno)):
                        self.assertIn(node.func.attr, METHODS | own)

    def test_generators_are_iterated_at_once(self):
        makers = {
            node.name for _, _, tree in trees() for node in ast.walk(tree)
            if isinstance(node, ast.FunctionDef) and any(isinstance(part, ast.Yield) for part in ast.walk(node))
        }
        for path, _, tree in trees():
            heads = [node.iter for node in ast.walk(tree) if isinstance(node, (ast.For, ast.comprehension))]
            for node in ast.walk(tree):
                if isinstance(node, ast.Call) and ast.unparse(node.func).split(".")[-1] in makers:
                    with self.subTest((path.name, node.lineno)):
                        self.assertIn(node, heads)


if __name__ == "__main__":
    unittest.main()
