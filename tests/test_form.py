"""The package's own files keep to the names of the interface and to the plain part of Python."""

import ast
import builtins
import importlib
import inspect
import re
import unittest
from pathlib import Path

FOLDER = Path(__file__).resolve().parent.parent / "twistyard"

INTERFACE = {
    "rows": {
        "is_row": ["thing"],
        "flat": ["numbers"],
        "stands_at": ["row", "pattern"],
        "backward": ["row"],
        "upside": ["row"],
        "inverse": ["row"],
    },
    "stacks": {
        "done_by": ["row", "moves"],
        "stack_moves": ["row"],
        "bar_stack": ["row"],
        "passed": ["row"],
        "passes": ["row"],
    },
    "parts": {
        "rising_parts": ["row"],
        "longest_falling": ["row"],
        "falling_parts": ["row"],
        "longest_rising": ["row"],
    },
    "trees": {
        "up": ["one", "other"],
        "down": ["one", "other"],
        "row_of": ["tree"],
        "tree_of": ["row"],
        "bar_tree": ["row"],
    },
    "counts": {
        "count_without": ["size", "pattern"],
    },
    "errors": {},
}

# L8, as far as names of functions and kinds go.
OWN_NAMES = set(
    "len range enumerate zip min max sum abs sorted reversed int str bool list tuple dict set frozenset "
    "isinstance ord repr any all divmod Exception ValueError TypeError KeyError IndexError LookupError "
    "ZeroDivisionError ArithmeticError OverflowError RuntimeError NotImplementedError StopIteration".split()
)

# L25.
METHODS = set(
    "append clear copy count endswith extend find get index insert isalnum isalpha isdigit islower isspace "
    "isupper items join keys ljust lower lstrip partition pop remove replace reverse rfind rjust rpartition "
    "rsplit rstrip setdefault split splitlines startswith strip update upper values zfill bit_length".split()
)

# L6 and L7: what the package's files hold no node of.
BARRED = (
    ast.With, ast.Match, ast.Delete, ast.Global, ast.Nonlocal, ast.Assert, ast.Yield, ast.YieldFrom,
    ast.AsyncFunctionDef, ast.AsyncFor, ast.AsyncWith, ast.Await, ast.Div, ast.SetComp, ast.DictComp,
    ast.GeneratorExp, ast.NamedExpr, ast.Starred, ast.Import, ast.TryStar,
)

# L22: the keywords that Python's own functions take.
KEYWORDS = {
    "sorted": {"key", "reverse"}, "min": {"key", "default"}, "max": {"key", "default"},
    "sum": {"start"}, "enumerate": {"start"}, "zip": {"strict"},
}

# L17's last list.
WORDS = re.compile(
    r"\b(type|typing|typing_extensions|enum|Enum|IntEnum|StrEnum|Flag|IntFlag|Generic|Protocol|ABC|ABCMeta|"
    r"namedtuple|NamedTuple|TypedDict|TYPE_CHECKING|abstractmethod)\b|dataclass|overload|contextmanager"
)


def files():
    return sorted(path for path in FOLDER.rglob("*") if "__pycache__" not in path.parts)


def trees():
    return [(path.name, ast.parse(path.read_text())) for path in files()]


class Interface(unittest.TestCase):
    def test_names_and_arguments(self):
        for module_name, functions in INTERFACE.items():
            module = importlib.import_module("twistyard." + module_name)
            for name, arguments in functions.items():
                self.assertEqual(list(inspect.signature(getattr(module, name)).parameters), arguments, name)


class Form(unittest.TestCase):
    def test_files(self):
        self.assertIn("__init__.py", [path.name for path in files()])
        for path in files():
            self.assertRegex(path.name, r"^([a-z][a-z0-9_]*|__init__|__main__)\.py$")

    def test_signs_words_and_sizes(self):
        for path in files():
            text = path.read_bytes().decode("ascii")
            self.assertRegex(text, r"\A[ -~\n]*\Z", path.name)
            self.assertIsNone(WORDS.search(text), path.name)
            lines = text.split("\n")
            self.assertLessEqual(len(lines), 400, path.name)
            self.assertLessEqual(max(len(line) for line in lines), 120, path.name)

    def test_nodes(self):
        for name, tree in trees():
            for node in ast.walk(tree):
                self.assertNotIsInstance(node, BARRED, name)
                if isinstance(node, ast.FunctionDef):
                    self.assertLessEqual(node.end_lineno - node.lineno + 1, 40, node.name)
                    self.assertEqual(node.decorator_list, [])
                if isinstance(node, ast.Assign):
                    self.assertEqual([isinstance(target, ast.Tuple) for target in node.targets], [False])
                if isinstance(node, (ast.For, ast.While)):
                    self.assertEqual(node.orelse, [], name)
                if isinstance(node, ast.Attribute):
                    self.assertIn(node.attr, METHODS, name)

    def test_top_of_files(self):
        for name, tree in trees():
            self.assertIsInstance(ast.get_docstring(tree), str, name)
            bound = []
            for node in tree.body[1:]:
                self.assertIsInstance(node, (ast.ImportFrom, ast.Assign, ast.FunctionDef), name)
                if isinstance(node, ast.ImportFrom):
                    bound += [alias.asname or alias.name for alias in node.names]
                elif isinstance(node, ast.FunctionDef):
                    bound.append(node.name)
                else:
                    bound.append(node.targets[0].id)
                    self.assertIn(type(ast.literal_eval(node.value)), (int, str, tuple), name)
            self.assertEqual(len(bound), len(set(bound)), name)

    def test_expressions(self):
        for name, tree in trees():
            for node in ast.walk(tree):
                if isinstance(node, ast.Constant):
                    self.assertIn(type(node.value), (int, str, bool, type(None)), name)
                if isinstance(node, ast.ListComp):
                    self.assertEqual(len(node.generators), 1, name)
                    self.assertLessEqual(len(node.generators[0].ifs), 1, name)
                if isinstance(node, ast.Compare) and isinstance(node.ops[0], (ast.Is, ast.IsNot)):
                    self.assertIn(ast.unparse(node.comparators[0]), ("None", "True", "False"), name)
                if isinstance(node, ast.Call) and ast.unparse(node.func) in OWN_NAMES:
                    words = {keyword.arg for keyword in node.keywords}
                    self.assertLessEqual(words, KEYWORDS.get(ast.unparse(node.func), set()), name)

    def test_names(self):
        for name, tree in trees():
            for node in ast.walk(tree):
                bound = None
                if isinstance(node, ast.Name):
                    bound = node.id if isinstance(node.ctx, ast.Store) else None
                    self.assertTrue(node.id in OWN_NAMES or node.id not in dir(builtins), (name, node.id))
                elif isinstance(node, ast.arg):
                    bound = node.arg
                elif isinstance(node, ast.FunctionDef):
                    bound = node.name
                if bound is not None:
                    self.assertRegex(bound, r"^[A-Za-z]\w*$")
                    self.assertNotIn(bound, dir(builtins), name)

    def test_imports(self):
        for name, tree in trees():
            for node in ast.walk(tree):
                if isinstance(node, ast.ImportFrom):
                    self.assertIn(node, tree.body)
                    self.assertEqual(node.level, 0)
                    self.assertRegex(node.module, r"^twistyard\.\w+$", name)
                    self.assertNotIn("*", [alias.name for alias in node.names])


if __name__ == "__main__":
    unittest.main()
