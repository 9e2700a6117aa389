"""The form of the package's files, as far as it can be read off them: the interface, sizes, imports."""

import ast
import builtins
import importlib
import inspect
import re
import unittest
from pathlib import Path

PACKAGE = Path(__file__).resolve().parent.parent / "nomoretold"
FILES = sorted(PACKAGE.rglob("*.py"))

# The functions of the interface that are there, by module, with their arguments.
INTERFACE = {
    "tables": {
        "is_table": ["value"], "answers_in": ["table"], "turned": ["table"], "part_table": ["table", "part"],
        "row_classes": ["table", "part"], "column_classes": ["table", "part"], "is_knotted": ["table", "part"],
    },
    "knots": {"can_be_told": ["table"], "least_knot": ["table"], "stuck": ["table"]},
    "talks": {
        "is_talk": ["table", "value"], "size_of": ["table", "talk"], "chances": ["table", "talk", "x", "y"],
        "heard": ["table", "talk", "way"], "comes_for": ["table", "talk", "way"],
    },
    "judging": {
        "is_right": ["table", "talk"], "tells_no_more": ["table", "talk"],
        "shows_fault": ["table", "talk", "value"], "judged": ["table", "talk"],
    },
    "classtalks": {"class_talk": ["table"], "turns": ["table", "talk"], "fewest_turns": ["table"]},
    "fewwords": {
        "fewest_words": ["table"], "word_talk": ["table"], "mean_words": ["table", "talk", "odds"],
        "least_mean": ["table", "odds"],
    },
    "leaks": {"leak": ["table", "talk"], "least_leak": ["table"], "leak_talk": ["table"]},
    "blurs": {"blurred": ["table", "lots"], "finest_blur": ["table"]},
    "known": {
        "richer": ["n"], "same": ["n"], "greater_one": ["n"], "sums": ["n", "m"], "first_price": ["n"],
        "second_price": ["n"],
    },
    "made": {
        "side_by_side": ["one", "other"], "both": ["one", "other"], "product": ["one", "other"],
        "count_told": ["rows", "columns", "many"],
    },
    "speeches": {
        "check": ["text"], "talk_of": ["text"], "printed": ["text"], "speech": ["table", "talk"],
        "judged_text": ["table", "text"],
    },
    "votes": {
        "vote_of": ["vote", "things"], "greatest_lot": ["vote"], "own_bits": ["vote"], "odd_square": ["vote"],
        "shows_odd": ["vote", "value"], "halves": ["vote", "square"], "square_table": ["vote", "square"],
    },
    "masks": {
        "masked": ["bits", "coins"], "mask_views": ["bits", "lot"], "masks_tell_no_more": ["many", "lot"],
    },
    "shares": {
        "dealt": ["p", "many", "secret", "coins"], "rebuilt": ["p", "points"],
        "seen": ["p", "many", "size", "secret", "lot"],
    },
    "sheets": {
        "sheet_value": ["p", "many", "sheet", "things"], "count_coins": ["many", "size", "sheet"],
        "by_shares": ["p", "many", "size", "sheet", "things", "coins"],
        "share_views": ["p", "many", "size", "sheet", "things", "lot"],
    },
    "desks": {"Desk": ["table"], "desk_of": ["text"]},
    "tabletexts": {"write_table": ["table"], "read_table": ["text"]},
}

# The methods of the interface, all of them defined in the class itself.
DESK_METHODS = {
    "say": ["self", "who", "lot"], "part": ["self"], "answer": ["self"], "classes": ["self"], "leak": ["self"],
    "is_kept": ["self"], "said": ["self"], "undo": ["self"], "text": ["self"],
}

# The builtins that the package may name (L8), and the methods of builtin values (L25) that it uses.
BUILTINS = set(
    "len range enumerate zip min max sum abs sorted reversed int str bool list tuple dict set isinstance ord any all"
    " divmod ValueError super".split()
)
METHODS = set(
    "append clear copy count endswith extend find get index insert isdigit items join keys partition pop remove"
    " replace reverse setdefault split startswith strip update values add discard __init__".split()
)

LIBRARY = {
    "heapq": {"heappush", "heappop", "heapify", "heapreplace", "heappushpop"},
    "math": {"gcd", "lcm", "isqrt", "comb", "perm", "factorial"},
    "itertools": {
        "product", "combinations", "permutations", "chain", "accumulate", "pairwise", "islice", "zip_longest",
    },
    "collections": {"defaultdict", "deque"},
    "__future__": {"annotations"},
}


def nodes(file):
    return list(ast.walk(ast.parse(file.read_text(encoding="utf-8"))))


def own_methods():
    """The names of the methods that the package's classes define."""
    classes = [node for file in FILES for node in nodes(file) if isinstance(node, ast.ClassDef)]
    return {node.name for one in classes for node in one.body if isinstance(node, ast.FunctionDef)}


class Interface(unittest.TestCase):
    def test_functions_are_defined_in_their_file(self):
        for module, functions in INTERFACE.items():
            names = vars(importlib.import_module(f"nomoretold.{module}"))
            for name, arguments in functions.items():
                with self.subTest(name):
                    self.assertEqual(names[name].__module__, f"nomoretold.{module}")
                    self.assertEqual(list(inspect.signature(names[name]).parameters), arguments)

    def test_methods_are_defined_in_their_class(self):
        own = vars(importlib.import_module("nomoretold.desks").Desk)
        for name, arguments in DESK_METHODS.items():
            with self.subTest(name):
                self.assertEqual(list(inspect.signature(own[name]).parameters), arguments)


class Form(unittest.TestCase):
    def test_the_folder_holds_python_files_alone(self):
        others = [
            path for path in PACKAGE.rglob("*")
            if path.is_file() and path.suffix != ".py" and path.parent.name != "__pycache__"
        ]
        self.assertEqual(others, [])
        for file in FILES:
            self.assertRegex(file.name, r"\A(__init__|__main__|[a-z][a-z0-9_]*)\.py\Z")
            self.assertTrue((file.parent / "__init__.py").is_file())

    def test_sizes(self):
        for file in FILES:
            lines = file.read_text(encoding="utf-8").split("\n")
            with self.subTest(file.name):
                self.assertLessEqual(len(lines), 399)
                self.assertLessEqual(max(map(len, lines)), 120)
            for node in nodes(file):
                if isinstance(node, ast.FunctionDef):
                    with self.subTest(node.name):
                        self.assertLessEqual(node.end_lineno - node.lineno + 1, 40)

    def test_signs(self):
        for file in FILES:
            with self.subTest(file.name):
                self.assertRegex(file.read_bytes(), rb"\A[ -~\n]*\Z")

    def test_imports(self):
        for file in FILES:
            for node in nodes(file):
                with self.subTest(file.name):
                    self.assertFalse(isinstance(node, ast.Import) and file.name != "__main__.py")
                    if isinstance(node, ast.ImportFrom):
                        names = {name.name for name in node.names}
                        own = re.fullmatch(r"nomoretold(\.[a-z][a-z0-9_]*)+", node.module or "")
                        self.assertEqual(node.level, 0)
                        self.assertNotIn("*", names)
                        self.assertTrue(own or names <= LIBRARY.get(node.module, set()))

    def test_names_and_methods(self):
        methods = METHODS | own_methods()
        for file in FILES:
            for node in nodes(file):
                with self.subTest(file.name, line=getattr(node, "lineno", None)):
                    if isinstance(node, ast.Name) and node.id in vars(builtins):
                        self.assertIn(node.id, BUILTINS)
                        self.assertIsInstance(node.ctx, ast.Load)
                    if isinstance(node, ast.arg):
                        self.assertNotIn(node.arg, vars(builtins))
                    if isinstance(node, ast.Call) and isinstance(node.func, ast.Attribute):
                        self.assertIn(node.func.attr, methods)

    def test_no_local_name_is_that_of_an_import(self):
        for file in FILES:
            imported = {
                name.name for node in nodes(file) if isinstance(node, ast.ImportFrom) for name in node.names
            }
            for node in nodes(file):
                with self.subTest(file.name, line=getattr(node, "lineno", None)):
                    if isinstance(node, ast.Name) and not isinstance(node.ctx, ast.Load):
                        self.assertNotIn(node.id, imported)
                    if isinstance(node, ast.arg):
                        self.assertNotIn(node.arg, imported)

    def test_no_floats_and_no_foreign_statements(self):
        barred = (ast.Div, ast.AsyncFunctionDef, ast.Await, ast.AsyncFor, ast.AsyncWith)
        for file in FILES:
            for node in nodes(file):
                with self.subTest(file.name, line=getattr(node, "lineno", None)):
                    self.assertNotIsInstance(node, barred)
                    if isinstance(node, ast.Constant):
                        self.assertNotIsInstance(node.value, (float, complex))


if __name__ == "__main__":
    unittest.main()
