"""The rules of ../shared/LANGUAGE.md that plain counting can see."""

import ast
import builtins
import unittest
from pathlib import Path

FOLDER = Path(__file__).resolve().parent.parent / "ringhue"
BUILTINS = set(
    "len range enumerate zip min max sum abs sorted reversed int str bool list tuple dict set"
    " isinstance ord repr any all divmod pow super iter next map"
    " Exception ValueError TypeError KeyError IndexError LookupError ZeroDivisionError"
    " ArithmeticError OverflowError RuntimeError NotImplementedError AttributeError"
    " NotImplemented StopIteration".split()
)
LIBRARY = {
    "heapq": {"heappush", "heappop", "heapify", "heapreplace", "heappushpop"},
    "math": {"gcd", "lcm", "isqrt", "comb", "perm", "factorial"},
    "itertools": {"product", "combinations", "permutations", "chain", "accumulate", "pairwise",
                  "islice", "zip_longest"},
    "collections": {"defaultdict", "deque"},
}
MODULE_LEVEL = (ast.Expr, ast.ImportFrom, ast.FunctionDef, ast.ClassDef, ast.Assign)
BARRED = (ast.Import, ast.AsyncFunctionDef, ast.Await, ast.Div, ast.Global)


def sources():
    files = sorted(FOLDER.glob("*.py"))
    return [(file.name, file.read_text(encoding="utf-8")) for file in files]


def parsed():
    return [(name, ast.parse(text)) for name, text in sources()]


class Files(unittest.TestCase):
    def test_nothing_but_files_of_the_program(self):
        # Runs without -B leave this one; git ignores it.
        found = [path for path in FOLDER.iterdir() if path.name != "__pycache__"]
        self.assertIn("__init__.py", [path.name for path in found])
        for path in found:
            self.assertTrue(path.is_file())
            self.assertRegex(path.name, r"^[a-z0-9_]+\.py$")

    def test_characters_and_sizes(self):
        for name, text in sources():
            with self.subTest(name=name):
                self.assertTrue(all(sign == "\n" or " " <= sign <= "~" for sign in text))
                lines = text.split("\n")
                self.assertLessEqual(len(lines), 399)
                self.assertLessEqual(max(len(line) for line in lines), 120)

    def test_functions_have_at_most_forty_lines(self):
        for name, tree in parsed():
            for node in ast.walk(tree):
                if isinstance(node, ast.FunctionDef):
                    with self.subTest(name=name, function=node.name):
                        self.assertLessEqual(node.end_lineno - node.lineno + 1, 40)


class Words(unittest.TestCase):
    def test_imports(self):
        for name, tree in parsed():
            for node in ast.walk(tree):
                if isinstance(node, ast.ImportFrom):
                    with self.subTest(name=name, line=node.lineno):
                        self.assertEqual(node.level, 0)
                        if node.module in LIBRARY:
                            words = {alias.name for alias in node.names}
                            self.assertLessEqual(words, LIBRARY[node.module])
                        else:
                            file = FOLDER / (node.module.removeprefix("ringhue.") + ".py")
                            self.assertTrue(file.is_file())

    def test_statements(self):
        for name, tree in parsed():
            for node in tree.body:
                self.assertIsInstance(node, MODULE_LEVEL, name)
            for node in ast.walk(tree):
                self.assertNotIsInstance(node, BARRED, name)

    def test_values(self):
        for name, tree in parsed():
            for node in ast.walk(tree):
                if isinstance(node, ast.Constant):
                    with self.subTest(name=name, line=node.lineno):
                        self.assertNotIsInstance(node.value, (float, complex))
                        if isinstance(node.value, str):
                            self.assertNotIn("%", node.value)

    def test_builtins(self):
        for name, tree in parsed():
            for node in ast.walk(tree):
                if isinstance(node, ast.Name) and hasattr(builtins, node.id):
                    with self.subTest(name=name, line=node.lineno):
                        self.assertIn(node.id, BUILTINS)
                        self.assertIsInstance(node.ctx, ast.Load)


if __name__ == "__main__":
    unittest.main()
