"""That the package keeps those rules of LANGUAGE.md that can be told from single words and lines."""

import ast
import builtins
import pathlib
import unittest

FOLDER = pathlib.Path(__file__).resolve().parent.parent / "touchcaps"
FILES = {path.name: path.read_text(encoding="utf-8") for path in sorted(FOLDER.glob("*.py"))}
TREES = {name: ast.parse(text) for name, text in FILES.items()}
LIBRARY = {
    "heapq": "heappush heappop heapify heapreplace heappushpop".split(),
    "math": "gcd lcm isqrt comb perm factorial".split(),
    "itertools": "product combinations permutations".split(),
}
BUILTINS = """len range enumerate zip min max sum abs sorted reversed int str bool list tuple dict set isinstance ord repr
    any all divmod iter next map property staticmethod classmethod super Exception ValueError TypeError KeyError IndexError
    LookupError ZeroDivisionError ArithmeticError OverflowError RuntimeError NotImplementedError AttributeError
    StopIteration NotImplemented""".split()
METHODS = """append clear copy count endswith extend find get index insert isalnum isalpha isdigit islower isspace isupper
    items join keys ljust lower lstrip partition pop remove replace reverse rfind rjust rpartition rsplit rstrip
    setdefault split splitlines startswith strip update upper values zfill bit_length title capitalize swapcase casefold
    center expandtabs removeprefix removesuffix rindex isascii isdecimal isnumeric istitle isidentifier isprintable
    translate add discard""".split()
SIGNED = """init eq repr str len enter exit call iter lt le gt ge ne add sub mul floordiv mod pow and or xor lshift rshift
    iadd isub imul ifloordiv imod iand ior ixor ilshift irshift neg pos invert abs bool contains getitem setitem""".split()
BARRED = """type typing typing_extensions enum Enum IntEnum StrEnum Flag IntFlag Generic Protocol ABC ABCMeta namedtuple
    NamedTuple TypedDict TYPE_CHECKING abstractmethod register mro elements open input law version_info with_traceback
    add_note eval exec getattr setattr delattr hasattr globals locals vars dir id compile format hash""".split()
NODES = (
    ast.Global, ast.AsyncFunctionDef, ast.AsyncFor, ast.AsyncWith, ast.Await, ast.Div, ast.GeneratorExp, ast.Import,
)


def nodes(kinds):
    return [(name, node) for name, tree in TREES.items() for node in ast.walk(tree) if isinstance(node, kinds)]


def at_top(tree):
    """The names that a file defines itself."""
    return [node.name for node in tree.body if isinstance(node, (ast.FunctionDef, ast.ClassDef))] + [
        target.id for node in tree.body if isinstance(node, ast.Assign) for target in node.targets]


def imported(tree):
    return [alias.name for node in tree.body if isinstance(node, ast.ImportFrom) for alias in node.names]


def own_modules(tree):
    return [
        node.module.split(".")[1] + ".py" for node in tree.body
        if isinstance(node, ast.ImportFrom) and node.module.startswith("touchcaps.")
    ]


def bound(node):
    """The names that are bound in a function: parameters, targets, nested functions."""
    return [
        part.arg if isinstance(part, ast.arg) else part.id for part in ast.walk(node)
        if isinstance(part, ast.arg) or isinstance(part, ast.Name) and not isinstance(part.ctx, ast.Load)
    ]


class Language(unittest.TestCase):

    def each(self, found):
        self.assertEqual([f"{name}:{node.lineno}" for name, node in found], [])

    def test_files_and_lines(self):
        self.assertIn("__init__.py", FILES)
        strange = [path.name for path in FOLDER.iterdir() if path.suffix != ".py" and path.name != "__pycache__"]
        self.assertEqual(strange, [])
        for name, text in FILES.items():
            lines = text.split("\n")
            self.assertLessEqual(len(lines), 400, name)
            self.assertLessEqual(max(len(line) for line in lines), 120, name)
            self.assertEqual([sign for sign in text if not (" " <= sign <= "~" or sign == "\n")], [], name)

    def test_functions_are_short(self):
        self.each((name, node) for name, node in nodes(ast.FunctionDef) if node.end_lineno - node.lineno >= 40)

    def test_statements_and_signs(self):
        self.each(nodes(NODES))
        self.each((name, node) for name, node in nodes(ast.Constant) if isinstance(node.value, (float, complex)))
        self.each(
            (name, node) for name, node in nodes(ast.BinOp)
            if isinstance(node.op, ast.Pow) and not isinstance(node.right, ast.Constant)
        )
        self.each(
            (name, node) for name, node in nodes(ast.Compare)
            if any(isinstance(sign, (ast.Is, ast.IsNot)) for sign in node.ops)
            and not isinstance(node.comparators[-1], ast.Constant)
        )

    def test_stars_in_calls(self):
        self.each(
            (name, node) for name, node in nodes(ast.Call) for part in node.args
            if isinstance(part, ast.Starred) and not isinstance(part.value, (ast.Name, ast.Attribute))
        )
        self.each((name, node) for name, node in nodes(ast.Call) if any(word.arg is None for word in node.keywords))

    def test_sets_are_not_kept(self):
        # But for those that a function makes by set(), as a statement of its own, and adds to.
        kept = [node.value for _, node in nodes(ast.Assign) if ast.unparse(node.value) == "set()"]
        held = [part for _, node in nodes(ast.Call) if ast.unparse(node.func) in ("sorted", "len") for part in node.args]
        held.extend(part for own in list(held) if isinstance(own, ast.BinOp) for part in (own.left, own.right))
        self.each(
            (name, node) for name, node in nodes((ast.Call, ast.Set, ast.SetComp))
            if (not isinstance(node, ast.Call) or ast.unparse(node.func) == "set") and node not in kept + held
        )

    def test_errors_that_are_caught(self):
        own = at_top(TREES["errors.py"])
        for _, node in nodes(ast.ExceptHandler):
            parts = node.type.elts if isinstance(node.type, ast.Tuple) else [node.type]
            self.assertEqual([part.id for part in parts if part.id not in own], [])
        for name, node in nodes(ast.FunctionDef):
            caught = [part.name for part in ast.walk(node) if isinstance(part, ast.ExceptHandler) and part.name]
            self.assertEqual(len(set(caught)), len(caught), name)
            self.assertEqual([one for one in caught if one in bound(node)], [], name)

    def test_imports(self):
        for name, tree in TREES.items():
            places = [place for place, node in enumerate(tree.body) if isinstance(node, ast.ImportFrom)]
            self.assertEqual(places, list(range(1, len(places) + 1)), name)
            self.assertEqual(len([1 for at, _ in nodes(ast.ImportFrom) if at == name]), len(places), name)
            for node in [tree.body[place] for place in places]:
                home = node.module.removeprefix("touchcaps.") + ".py"
                told = at_top(TREES[home]) if home in TREES else LIBRARY[node.module]
                self.assertEqual([alias.name for alias in node.names if alias.name not in told or alias.asname], [], name)

    def test_no_circle_of_imports(self):
        left = {name: own_modules(tree) for name, tree in TREES.items()}
        while left:
            free = [name for name, others in left.items() if not any(other in left for other in others)]
            self.assertNotEqual(free, [], left)
            left = {name: others for name, others in left.items() if name not in free}

    def test_names_are_bound_once(self):
        for name, tree in TREES.items():
            names = at_top(tree) + imported(tree)
            self.assertEqual(len(set(names)), len(names), name)
            classes = [node.name for node in tree.body if isinstance(node, ast.ClassDef)]
            for node in ast.walk(tree):
                if isinstance(node, ast.FunctionDef):
                    taken = [own for own in bound(node) if own in classes + imported(tree) or own in dir(builtins)]
                    self.assertEqual(taken, [], f"{name}:{node.lineno}")

    def test_builtins_methods_and_decorators(self):
        self.each(
            (name, node) for name, node in nodes(ast.Name)
            if node.id in dir(builtins) and node.id not in BUILTINS
        )
        own = [node.name for _, node in nodes(ast.FunctionDef)]
        self.each(
            (name, node.func) for name, node in nodes(ast.Call)
            if isinstance(node.func, ast.Attribute) and node.func.attr not in METHODS + own
        )
        signs = [f"__{word}__" for word in SIGNED]
        self.each(
            (name, node) for name, node in nodes(ast.FunctionDef) if node.name.startswith("__") and node.name not in signs
        )
        self.each(
            (name, node) for name, node in nodes(ast.FunctionDef) for mark in node.decorator_list
            if ast.unparse(mark).split(".")[-1] not in ("property", "setter", "staticmethod", "classmethod")
        )

    def test_strings_and_words(self):
        self.each((name, node) for name, node in nodes(ast.Constant) if isinstance(node.value, str) and "%" in node.value)
        self.each((name, node) for name, node in nodes(ast.Name) if node.id in BARRED)
        self.each((name, node) for name, node in nodes(ast.Attribute) if node.attr in BARRED)
        self.each((name, node) for name, node in nodes((ast.FunctionDef, ast.ClassDef)) if node.name in BARRED)
        self.each((name, node) for name, node in nodes(ast.arg) if node.arg in BARRED)
