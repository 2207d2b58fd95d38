"""Those rules of the language that can be told by looking at the files of the package."""

import ast
import re
import unittest
from pathlib import Path

PACKAGE = Path(__file__).resolve().parent.parent / "stuckrows"
FILES = sorted(path for path in PACKAGE.rglob("*") if path.is_file() and "__pycache__" not in path.parts)
LIBRARY = {"heapq", "math", "itertools", "collections"}
BUILTINS = set(dir(__builtins__) if not isinstance(__builtins__, dict) else __builtins__)
CALLED = set(
    "len range enumerate zip min max sum abs sorted reversed int str bool list tuple dict set isinstance ord repr any "
    "all divmod super iter next map".split()
)
BARRED = re.compile(r"\b(type|typing|enum|Enum|namedtuple|NamedTuple|ABC|Protocol|Generic|global|async)\b|dataclass")
METHODS = set(
    "append clear copy count endswith extend find get index insert isalnum isalpha isdigit islower isspace isupper "
    "items join keys ljust lower lstrip partition pop remove replace reverse rfind rjust rpartition rsplit rstrip "
    "setdefault split splitlines startswith strip update upper values zfill bit_length add discard sort isascii".split()
)
# What is walked on the spot, and who walks it there. L23 would let a plain local variable keep one of these
# in some cases; a list in its place is as short, and no case has to be told from another.
LAZY = {"range", "zip", "enumerate", "reversed"}
VIEWS = {"items", "keys", "values"}
WALKERS = {"list", "tuple", "dict", "sorted", "sum", "any", "all", "enumerate", "zip"}
CHOOSERS = {"product", "combinations", "permutations"}
AT_ONCE = (
    "for k in range(3): pass", "[k for k, row in enumerate(rows) if row]", "{k: v for k, v in d.items()}",
    "list(range(3))", "take(list(range(3)))", "kept = tuple(zip(a, b))", "return sorted(d.values(), reverse=True)",
    "list(enumerate(zip(a, b)))", "any(d[k] for k in d.keys())", "max(d.values(), default=0)", "','.join(d.keys())",
    "k in range(3)", "k not in d.keys()", "len(d.items())", "for k in reversed(range(3)): pass",
    "from itertools import combinations, product\nlist(combinations(range(3), 2) or product(a, d.items()))",
)
NOT_AT_ONCE = (
    "take(range(3))", "take(a, zip(a, b))", "take(some=enumerate(a))", "take(*reversed(a))", "take(b=[d.values()])",
    "box.take(range(3), a)", "box.take(a)[0].take(d.items())", "Box(d.keys())", "rows.append(range(3))",
    "take(enumerate(range(3)))", "take(range(3) if a else b)", "take(a or d.values())", "combinations(range(3), 2)",
    "kept = range(3)", "a, b = zip(a, b)", "self.rows = d.items()", "rows[k] = enumerate(a)", "kept = [reversed(a)]",
    "kept = (1, d.keys())", "kept = {1: d.values()}", "if (kept := range(3)): pass", "def take(rows=range(3)): pass",
    "def take(): return range(3)", "def take(): return zip(a, b)", "def take(): return 1, d.items()",
    "lambda: enumerate(a)", "def take(): yield reversed(a)", "[d.values() for d in rows]", "list(d.keys() for d in a)",
    "sorted(rows, key=zip(a, b))", "min(range(3), a)", "max(d.items(), key=take)", "len(zip(a, b))", "range(3) == kept",
    "k in d.values()", "list(reversed(d.items()))", "glue.join(d.keys())", "dict(a=d.items())", "set(d.values())",
    "for k in a: zip(a, b)",
)
FORBIDDEN = (
    ast.Global, ast.AsyncFunctionDef, ast.Await, ast.Import, ast.AnnAssign, ast.Yield, ast.YieldFrom, ast.TryStar,
)


def trees():
    return [(path.name, ast.parse(path.read_text())) for path in FILES]


class Language(unittest.TestCase):

    def test_only_plain_files(self):
        self.assertTrue(FILES)
        for path in FILES:
            self.assertRegex(path.name, r"^[a-z_]+\.py$")

    def test_sizes_and_characters(self):
        for path in FILES:
            text = path.read_text()
            lines = text.split("\n")
            self.assertLessEqual(len(lines), 399, path.name)
            self.assertLessEqual(max(len(line) for line in lines), 120, path.name)
            self.assertTrue(all(letter == "\n" or " " <= letter <= "~" for letter in text), path.name)

    def test_functions_have_at_most_forty_lines(self):
        for name, tree in trees():
            for node in ast.walk(tree):
                if isinstance(node, ast.FunctionDef):
                    self.assertLessEqual(node.end_lineno - node.lineno + 1, 40, (name, node.name))
                    self.assertEqual(node.decorator_list, [])

    def test_imports(self):
        for name, tree in trees():
            for node in ast.walk(tree):
                if isinstance(node, ast.ImportFrom):
                    self.assertTrue(node.module.startswith("stuckrows.") or node.module in LIBRARY, name)
                    self.assertEqual(node.level, 0)
                    self.assertTrue(all(one.asname is None and one.name != "*" for one in node.names))

    def test_statements_and_calls(self):
        own = own_methods()
        for name, tree in trees():
            for node in ast.walk(tree):
                self.assertNotIsInstance(node, FORBIDDEN, name)
                if isinstance(node, ast.Call) and isinstance(node.func, ast.Name) and node.func.id in BUILTINS:
                    self.assertIn(node.func.id, CALLED, name)
                if isinstance(node, ast.Call) and isinstance(node.func, ast.Attribute):
                    self.assertIn(node.func.attr, METHODS | own, name)

    def test_ranges_zips_and_views_are_walked_where_they_are_made(self):
        for name, tree in trees():
            self.assertEqual(rows_not_at_once(tree), [], name)

    def test_rows_that_walk_at_once_are_told_from_others(self):
        for text in AT_ONCE:
            self.assertEqual(rows_not_at_once(ast.parse(text)), [], text)
        for text in NOT_AT_ONCE:
            self.assertEqual(rows_not_at_once(ast.parse(text)), [1], text)

    def test_names_and_words(self):
        for name, tree in trees():
            for node in ast.walk(tree):
                bound = getattr(node, "id", None) if isinstance(getattr(node, "ctx", None), ast.Store) else None
                bound = node.arg if isinstance(node, ast.arg) else bound
                if bound is not None:
                    self.assertNotIn(bound, BUILTINS, name)
                    self.assertFalse(bound.startswith("__"), name)
                if isinstance(node, ast.Constant) and isinstance(node.value, str):
                    self.assertNotIn("%", node.value, name)
                if isinstance(node, (ast.Name, ast.Attribute)):
                    self.assertNotRegex(getattr(node, "id", getattr(node, "attr", "")), BARRED, name)

    def test_nothing_is_done_at_module_level(self):
        for name, tree in trees():
            for node in tree.body:
                self.assertIsInstance(node, (ast.Expr, ast.ImportFrom, ast.FunctionDef, ast.ClassDef, ast.Assign), name)
                if isinstance(node, ast.Assign):
                    ast.literal_eval(node.value)
                if isinstance(node, ast.Expr):
                    self.assertIsInstance(node.value, ast.Constant)

    def test_no_file_imports_itself_by_way_of_others(self):
        wanted = {}
        for path in FILES:
            names = [node.module for node in ast.walk(ast.parse(path.read_text())) if isinstance(node, ast.ImportFrom)]
            wanted["stuckrows." + path.stem] = [name for name in names if name.startswith("stuckrows.")]
        done = set()
        while len(done) < len(wanted):
            ready = {name for name, needs in wanted.items() if name not in done and done.issuperset(needs)}
            self.assertTrue(ready, sorted(set(wanted) - done))
            done |= ready


def lazy_name(node):
    """What makes a range, a zip, an enumerate, a reversed or a view of a dict here; None for another node."""
    if isinstance(node, ast.Call) and isinstance(node.func, ast.Name) and node.func.id in LAZY:
        return node.func.id
    if isinstance(node, ast.Call) and isinstance(node.func, ast.Attribute) and node.func.attr in VIEWS:
        return node.func.attr
    return None


def walks(caller, node, library):
    """Whether a call walks one of its arguments at once; library: the names that its file has from itertools."""
    name = lazy_name(node)
    if isinstance(caller.func, ast.Attribute):
        return caller.func.attr == "join" and isinstance(caller.func.value, ast.Constant)
    if not isinstance(caller.func, ast.Name) or node not in caller.args:
        return False
    if caller.func.id in CHOOSERS & library:
        return name in {"range", "zip", "items"} and (caller.func.id == "product" or node is caller.args[0])
    if caller.func.id in {"min", "max"}:
        return len(caller.args) == 1 and all(word.arg == "default" for word in caller.keywords)
    allowed = {"len": {"range", "items"}, "reversed": {"range"}}.get(caller.func.id, LAZY | VIEWS)
    return caller.func.id in WALKERS | {"len", "reversed"} and node is caller.args[0] and name in allowed


def is_at_once(parent, node, library):
    """Whether what is made at a node is walked by the node around it."""
    if isinstance(parent, (ast.For, ast.comprehension)):
        return node is parent.iter
    if isinstance(parent, ast.Compare):
        tested = node is not parent.left and all(isinstance(sign, (ast.In, ast.NotIn)) for sign in parent.ops)
        return tested and lazy_name(node) in {"range", "keys"}
    return isinstance(parent, ast.Call) and walks(parent, node, library)


def rows_not_at_once(tree):
    """The rows of a file in which a range, zip, enumerate, reversed or view is passed on, kept or returned."""
    found = [node for node in ast.walk(tree) if isinstance(node, ast.ImportFrom) and node.module == "itertools"]
    library = {one.name for node in found for one in node.names}
    rows = []
    for parent in ast.walk(tree):
        for node in ast.iter_child_nodes(parent):
            if lazy_name(node) is not None and not is_at_once(parent, node, library):
                rows.append(node.lineno)
    return sorted(rows)


def own_methods():
    """The methods of all classes of the package."""
    found = set()
    for _, tree in trees():
        for node in ast.walk(tree):
            if isinstance(node, ast.ClassDef):
                found.update(one.name for one in node.body if isinstance(one, ast.FunctionDef))
    return found


if __name__ == "__main__":
    unittest.main()
