"""Rules of the language subset that a glance at the syntax can tell: files, sizes, signs, names, statements."""

import ast
import builtins
import re
import unittest
from pathlib import Path

PACKAGE = Path(__file__).resolve().parent.parent / "deadlane"

BUILTINS = set("""
    len range enumerate zip min max sum abs sorted reversed int str bool bytes list tuple dict set frozenset isinstance
    ord repr any all divmod pow getattr hasattr setattr iter next map type super property staticmethod classmethod
    Exception ValueError TypeError KeyError IndexError LookupError ZeroDivisionError ArithmeticError OverflowError
    RuntimeError NotImplementedError AttributeError StopIteration NotImplemented
""".split())

LIBRARY = {
    "heapq": {"heappush", "heappop", "heapify", "heapreplace", "heappushpop"},
    "math": {"gcd", "lcm", "isqrt", "comb", "perm", "factorial"},
    "itertools": {
        "product", "combinations", "permutations", "chain", "accumulate", "pairwise", "islice", "zip_longest",
    },
    "collections": {"defaultdict", "deque"},
}

UNUSED_WORDS = re.compile(
    r"\b(register|mro|elements|open|input|law|version_info|typing|enum|namedtuple|global|async|await|import_module)\b"
)


def sources():
    return [(path, path.read_text()) for path in sorted(PACKAGE.rglob("*.py"))]


def trees():
    return [(path, ast.parse(text)) for path, text in sources()]


def nodes(*kinds):
    return [(path, node) for path, tree in trees() for node in ast.walk(tree) if isinstance(node, kinds)]


def code_names(tree):
    for node in ast.walk(tree):
        for field in ["id", "name", "attr", "arg"]:
            if isinstance(getattr(node, field, None), str):
                yield getattr(node, field)


class Files(unittest.TestCase):
    def test_the_package_is_one_folder_of_plain_files(self):
        found = [path for path in PACKAGE.rglob("*") if "__pycache__" not in path.parts]
        self.assertIn(PACKAGE / "__init__.py", found)
        for path in found:
            self.assertRegex(path.name, r"^([a-z][a-z0-9_]*|__init__|__main__)\.py$")

    def test_sizes_and_signs(self):
        for path, text in sources():
            self.assertRegex(text, r"\A[ -~\n]*\Z", path)
            self.assertLessEqual(len(text.splitlines()), 399, path)
            self.assertLessEqual(max(len(line) for line in text.splitlines()), 120, path)

    def test_imports(self):
        for path, node in nodes(ast.Import, ast.ImportFrom):
            self.assertIsInstance(node, ast.ImportFrom, path)
            names = {alias.name for alias in node.names}
            if node.module in LIBRARY:
                self.assertLessEqual(names, LIBRARY[node.module], path)
            else:
                self.assertRegex(node.module, r"^deadlane\.\w+$", path)

    def test_each_import_names_the_file_that_defines_it(self):
        defined = {path.stem: {getattr(node, "name", None) for node in tree.body} | {
            node.targets[0].id for node in tree.body if isinstance(node, ast.Assign)
        } for path, tree in trees()}
        for path, node in nodes(ast.ImportFrom):
            if node.module.startswith("deadlane."):
                for alias in node.names:
                    self.assertIn(alias.name, defined[node.module.split(".")[1]], path)


class Code(unittest.TestCase):
    def test_functions_are_short(self):
        for path, node in nodes(ast.FunctionDef):
            self.assertLessEqual(node.end_lineno - node.lineno + 1, 40, (path, node.name))

    def test_modules_hold_only_definitions_and_plain_values(self):
        allowed = (ast.ImportFrom, ast.FunctionDef, ast.ClassDef, ast.Assign)
        for path, tree in trees():
            for at, node in enumerate(tree.body):
                docstring = at == 0 and isinstance(node, ast.Expr)
                self.assertTrue(docstring or isinstance(node, allowed), (path, node.lineno))

    def test_functions_have_no_decorators(self):
        for path, node in nodes(ast.Module):
            for child in node.body:
                self.assertFalse(getattr(child, "decorator_list", []), path)

    def test_builtins(self):
        for path, node in nodes(ast.Name):
            if hasattr(builtins, node.id):
                self.assertIn(node.id, BUILTINS, path)
                self.assertIsInstance(node.ctx, ast.Load, path)

    def test_no_definition_takes_a_builtin_name(self):
        for path, node in nodes(ast.FunctionDef, ast.ClassDef, ast.arg):
            name = node.arg if isinstance(node, ast.arg) else node.name
            self.assertFalse(hasattr(builtins, name), (path, name))

    def test_words_that_are_not_used(self):
        for path, tree in trees():
            for name in code_names(tree):
                self.assertIsNone(UNUSED_WORDS.fullmatch(name), (path, name))

    def test_no_floats_and_no_percent_signs(self):
        for path, node in nodes(ast.Constant):
            self.assertNotIsInstance(node.value, (float, complex), path)
            self.assertFalse(isinstance(node.value, str) and "%" in node.value, path)
        self.assertEqual(nodes(ast.Div), [])

    def test_no_statement_outside_the_subset(self):
        self.assertEqual(nodes(ast.AsyncFunctionDef, ast.AsyncFor, ast.AsyncWith, ast.Await, ast.TryStar), [])


if __name__ == "__main__":
    unittest.main()
