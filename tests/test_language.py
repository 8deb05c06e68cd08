"""The rules of the language that a program can check, and the names of the interface."""

import ast
import builtins
import inspect
import re
import unittest
from pathlib import Path

from shelvesmeet import answers, best, looks, shelves, shown, squeezed

FOLDER = Path(looks.__file__).parent
FILES = sorted(FOLDER.glob("*.py"))
BARRED_WORDS = re.compile(
    r"\b(type|typing|typing_extensions|enum|Enum|IntEnum|StrEnum|Flag|IntFlag|Generic|Protocol|ABC|ABCMeta"
    r"|namedtuple|NamedTuple|TypedDict|TYPE_CHECKING|abstractmethod)\b|dataclass|overload|contextmanager"
)
BUILTINS = set(
    "len range enumerate zip min max sum abs sorted reversed int str bool bytes list tuple dict set frozenset"
    " isinstance ord repr any all divmod ValueError".split()
)
INTERFACE = [
    (shelves.meet, ["one", "other"]),
    (shelves.meet_places, ["one", "other"]),
    (shelves.on_many, ["shelves", "many"]),
    (shelves.near, ["one", "other", "far"]),
    (looks.answers, ["one", "other", "looks"]),
    (looks.by_steps, ["one", "other"]),
    (looks.by_leaps, ["one", "other"]),
    (answers.Shown, []),
    (answers.Open, ["mine", "theirs"]),
    (answers.Read, ["shelf"]),
    (answers.Broken, ["place"]),
    (answers.Settled, ["things"]),
    (answers.Unsettled, ["worths"]),
    (shown.judged, ["one", "other", "looks"]),
    (shown.fewest_looks, ["one", "other"]),
    (squeezed.bits, ["shelf"]),
    (squeezed.read, ["text"]),
    (squeezed.halves, ["shelf", "low"]),
    (squeezed.at_place, ["shelf", "low", "place"]),
    (squeezed.room, ["shelf", "low"]),
    (squeezed.best_low, ["shelf"]),
    (best.best, ["lists", "many"]),
    (best.judged_to, ["lists", "many", "depth"]),
    (best.depth_of, ["lists", "many"]),
]
# What is iterated at once and never kept.
AT_ONCE = {"zip", "enumerate", "range", "reversed"}


class Language(unittest.TestCase):
    def test_the_folder_holds_only_python_files(self):
        others = [path.name for path in FOLDER.iterdir() if path not in FILES and path.name != "__pycache__"]
        self.assertEqual(others, [])
        self.assertIn("__init__.py", [path.name for path in FILES])

    def test_characters_words_and_sizes(self):
        for path in FILES:
            text = path.read_bytes().decode("ascii")
            with self.subTest(path.name):
                self.assertRegex(text, r"\A[ -~\n]*\Z")
                self.assertIsNone(BARRED_WORDS.search(text))
                self.assertNotIn("%", text)
                self.assertLessEqual(len(text.splitlines()), 400)
                self.assertLessEqual(max(map(len, text.splitlines())), 120)

    def test_statements_and_names(self):
        for path in FILES:
            for node in ast.walk(ast.parse(path.read_text())):
                with self.subTest(path.name, line=getattr(node, "lineno", 0)):
                    self.check_node(node)

    def check_node(self, node):
        """Some of the rules, at one node of a file."""
        self.assertNotIsInstance(node, (ast.Import, ast.Global, ast.Div, ast.AsyncFunctionDef))
        if isinstance(node, ast.ImportFrom):
            self.assertTrue(node.module.startswith("shelvesmeet.") and node.level == 0)
        if isinstance(node, ast.FunctionDef):
            self.assertLessEqual(node.end_lineno - node.lineno + 1, 40)
            self.assertEqual(node.decorator_list, [])
        if isinstance(node, ast.Constant):
            self.assertNotIsInstance(node.value, (float, complex))
        if isinstance(node, (ast.Assign, ast.Return)) and isinstance(node.value, ast.Call):
            self.assertNotIn(getattr(node.value.func, "id", ""), AT_ONCE)
        if isinstance(node, ast.BinOp) and isinstance(node.op, ast.Pow):
            self.assertIsInstance(node.right, ast.Constant)
        if isinstance(node, ast.Compare) and isinstance(node.ops[0], (ast.Is, ast.IsNot)):
            self.assertIn(ast.unparse(node.comparators[0]), ("None", "True", "False"))
        if isinstance(node, ast.Name):
            self.assertFalse(node.id.startswith("_"))
        if isinstance(node, ast.Name) and node.id in dir(builtins):
            self.assertIn(node.id, BUILTINS)
            self.assertIsInstance(node.ctx, ast.Load)


class Interface(unittest.TestCase):
    def test_names_and_arguments(self):
        for ask, names in INTERFACE:
            with self.subTest(ask.__name__):
                self.assertEqual(list(inspect.signature(ask).parameters), names)


if __name__ == "__main__":
    unittest.main()
