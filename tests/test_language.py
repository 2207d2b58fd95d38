"""Those rules of the language that can be told by looking at the files of the package."""

import ast
import re
import unittest
from pathlib import Path

PACKAGE = Path(__file__).resolve().parent.parent / "stuckrows"
FILES = sorted(path for path in PACKAGE.rglob("*") if path.is_file() and "__pycache__" not in path.parts)
LIBRARY = {"heapq", "math", "itertools", "collections"}
BUILTINS = set(dir(__builtins__) if not isinstance(__builtins__, dict) else __builtins__)
CALLED = set(
    "len range enumerate zip min max sum abs sorted reversed int str bool list tuple dict set isinstance ord repr any "
    "all divmod super iter next map".split()
)
BARRED = re.compile(r"\b(type|typing|enum|Enum|namedtuple|NamedTuple|ABC|Protocol|Generic|global|async)\b|dataclass")
METHODS = set(
    "append clear copy count endswith extend find get index insert isalnum isalpha isdigit islower isspace isupper "
    "items join keys ljust lower lstrip partition pop remove replace reverse rfind rjust rpartition rsplit rstrip "
    "setdefault split splitlines startswith strip update upper values zfill bit_length add discard sort isascii".split()
)
FORBIDDEN = (
    ast.Global, ast.AsyncFunctionDef, ast.Await, ast.Import, ast.AnnAssign, ast.Yield, ast.YieldFrom, ast.TryStar,
)


def trees():
    return [(path.name, ast.parse(path.read_text())) for path in FILES]


class Language(unittest.TestCase):

    def test_only_plain_files(self):
        self.assertTrue(FILES)
        for path in FILES:
            self.assertRegex(path.name, r"^[a-z_]+\.py$")

    def test_sizes_and_characters(self):
        for path in FILES:
            text = path.read_text()
            lines = text.split("\n")
            self.assertLessEqual(len(lines), 399, path.name)
            self.assertLessEqual(max(len(line) for line in lines), 120, path.name)
            self.assertTrue(all(letter == "\n" or " " <= letter <= "~" for letter in text), path.name)

    def test_functions_have_at_most_forty_lines(self):
        for name, tree in trees():
            for node in ast.walk(tree):
                if isinstance(node, ast.FunctionDef):
                    self.assertLessEqual(node.end_lineno - node.lineno + 1, 40, (name, node.name))
                    self.assertEqual(node.decorator_list, [])

    def test_imports(self):
        for name, tree in trees():
            for node in ast.walk(tree):
                if isinstance(node, ast.ImportFrom):
                    self.assertTrue(node.module.startswith("stuckrows.") or node.module in LIBRARY, name)
                    self.assertEqual(node.level, 0)
                    self.assertTrue(all(one.asname is None and one.name != "*" for one in node.names))

    def test_statements_and_calls(self):
        own = own_methods()
        for name, tree in trees():
            for node in ast.walk(tree):
                self.assertNotIsInstance(node, FORBIDDEN, name)
                if isinstance(node, ast.Call) and isinstance(node.func, ast.Name) and node.func.id in BUILTINS:
                    self.assertIn(node.func.id, CALLED, name)
                if isinstance(node, ast.Call) and isinstance(node.func, ast.Attribute):
                    self.assertIn(node.func.attr, METHODS | own, name)

    def test_names_and_words(self):
        for name, tree in trees():
            for node in ast.walk(tree):
                bound = getattr(node, "id", None) if isinstance(getattr(node, "ctx", None), ast.Store) else None
                bound = node.arg if isinstance(node, ast.arg) else bound
                if bound is not None:
                    self.assertNotIn(bound, BUILTINS, name)
                    self.assertFalse(bound.startswith("__"), name)
                if isinstance(node, ast.Constant) and isinstance(node.value, str):
                    self.assertNotIn("%", node.value, name)
                if isinstance(node, (ast.Name, ast.Attribute)):
                    self.assertNotRegex(getattr(node, "id", getattr(node, "attr", "")), BARRED, name)

    def test_nothing_is_done_at_module_level(self):
        for name, tree in trees():
            for node in tree.body:
                self.assertIsInstance(node, (ast.Expr, ast.ImportFrom, ast.FunctionDef, ast.ClassDef, ast.Assign), name)
                if isinstance(node, ast.Assign):
                    ast.literal_eval(node.value)
                if isinstance(node, ast.Expr):
                    self.assertIsInstance(node.value, ast.Constant)

    def test_no_file_imports_itself_by_way_of_others(self):
        wanted = {}
        for path in FILES:
            names = [node.module for node in ast.walk(ast.parse(path.read_text())) if isinstance(node, ast.ImportFrom)]
            wanted["stuckrows." + path.stem] = [name for name in names if name.startswith("stuckrows.")]
        done = set()
        while len(done) < len(wanted):
            ready = {name for name, needs in wanted.items() if name not in done and done.issuperset(needs)}
            self.assertTrue(ready, sorted(set(wanted) - done))
            done |= ready


def own_methods():
    """The methods of all classes of the package."""
    found = set()
    for _, tree in trees():
        for node in ast.walk(tree):
            if isinstance(node, ast.ClassDef):
                found.update(one.name for one in node.body if isinstance(one, ast.FunctionDef))
    return found


if __name__ == "__main__":
    unittest.main()
