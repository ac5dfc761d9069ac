"""Rules of the language subset that a glance at the syntax can tell: files, sizes, signs, names, statements."""

import ast
import builtins
import re
import unittest
from pathlib import Path

PACKAGE = Path(__file__).resolve().parent.parent / "deadlane"

BUILTINS = set("""
    len range enumerate zip min max sum abs sorted reversed int str bool bytes list tuple dict set frozenset isinstance
    ord repr any all divmod pow getattr hasattr setattr iter next map type super property staticmethod classmethod
    Exception ValueError TypeError KeyError IndexError LookupError ZeroDivisionError ArithmeticError OverflowError
    RuntimeError NotImplementedError AttributeError StopIteration NotImplemented
""".split())

LIBRARY = {
    "heapq": {"heappush", "heappop", "heapify", "heapreplace", "heappushpop"},
    "math": {"gcd", "lcm", "isqrt", "comb", "perm", "factorial"},
    "itertools": {
        "product", "combinations", "permutations", "chain", "accumulate", "pairwise", "islice", "zip_longest",
    },
    "collections": {"defaultdict", "deque"},
}

# Methods of the values of Python itself that the package may call.
METHODS = set("""
    append clear copy count endswith extend find get index insert isalnum isalpha isdigit islower isspace isupper items
    join keys ljust lower lstrip partition pop remove replace reverse rfind rjust rpartition rsplit rstrip setdefault
    split splitlines startswith strip update upper values zfill bit_length isascii isdecimal isprintable removeprefix
    removesuffix rindex add discard
""".split())

# Double-underscore methods that the package may define, and names that no method or attribute of its own may have.
DUNDERS = {"__init__", "__eq__", "__len__", "__repr__", "__str__"}
NOT_OWN = set("""
    items keys values pop update append clear extend insert remove reverse setdefault sort args encode decode hex
    fromhex format format_map as_integer_ratio bit_count conjugate from_bytes is_integer to_bytes property
    staticmethod classmethod super
""".split())

UNUSED_WORDS = re.compile(
    r"\b(register|mro|elements|open|input|law|version_info|typing|enum|namedtuple|global|async|await|import_module)\b"
)


def sources():
    return [(path, path.read_text()) for path in sorted(PACKAGE.rglob("*.py"))]


def trees():
    return [(path, ast.parse(text)) for path, text in sources()]


def nodes(*kinds):
    return [(path, node) for path, tree in trees() for node in ast.walk(tree) if isinstance(node, kinds)]


def code_names(tree):
    for node in ast.walk(tree):
        for field in ["id", "name", "attr", "arg"]:
            if isinstance(getattr(node, field, None), str):
                yield getattr(node, field)


class Files(unittest.TestCase):
    def test_the_package_is_one_folder_of_plain_files(self):
        found = [path for path in PACKAGE.rglob("*") if "__pycache__" not in path.parts]
        self.assertIn(PACKAGE / "__init__.py", found)
        for path in found:
            self.assertRegex(path.name, r"^([a-z][a-z0-9_]*|__init__|__main__)\.py$")

    def test_sizes_and_signs(self):
        for path, text in sources():
            self.assertRegex(text, r"\A[ -~\n]*\Z", path)
            self.assertLessEqual(len(text.splitlines()), 399, path)
            self.assertLessEqual(max(len(line) for line in text.splitlines()), 120, path)

    def test_imports(self):
        for path, node in nodes(ast.Import, ast.ImportFrom):
            self.assertIsInstance(node, ast.ImportFrom, path)
            names = {alias.name for alias in node.names}
            if node.module in LIBRARY:
                self.assertLessEqual(names, LIBRARY[node.module], path)
            else:
                self.assertRegex(node.module, r"^deadlane\.\w+$", path)

    def test_each_import_names_the_file_that_defines_it(self):
        defined = {path.stem: {getattr(node, "name", None) for node in tree.body} | {
            node.targets[0].id for node in tree.body if isinstance(node, ast.Assign)
        } for path, tree in trees()}
        for path, node in nodes(ast.ImportFrom):
            if node.module.startswith("deadlane."):
                for alias in node.names:
                    self.assertIn(alias.name, defined[node.module.split(".")[1]], path)


    def test_no_files_import_from_each_other(self):
        imports = {path.stem: {
            node.module.split(".")[1] for node in tree.body
            if isinstance(node, ast.ImportFrom) and node.module.startswith("deadlane.")
        } for path, tree in trees()}
        while imports:
            free = [file for file in imports if not imports[file] & set(imports)]
            self.assertTrue(free, imports)
            for file in free:
                del imports[file]


def bound_at_the_top(tree):
    for node in tree.body:
        if isinstance(node, (ast.FunctionDef, ast.ClassDef)):
            yield node.name
        elif isinstance(node, ast.ImportFrom):
            yield from [alias.name for alias in node.names]
        elif isinstance(node, ast.Assign):
            yield from [target.id for target in node.targets]


def parents(tree):
    return {child: node for node in ast.walk(tree) for child in ast.iter_child_nodes(node)}


def calls_of(tree, *names):
    for node in ast.walk(tree):
        if isinstance(node, ast.Call) and isinstance(node.func, ast.Name) and node.func.id in names:
            yield node


class Code(unittest.TestCase):
    def test_functions_are_short(self):
        for path, node in nodes(ast.FunctionDef):
            self.assertLessEqual(node.end_lineno - node.lineno + 1, 40, (path, node.name))

    def test_modules_hold_only_definitions_and_plain_values(self):
        allowed = (ast.ImportFrom, ast.FunctionDef, ast.ClassDef, ast.Assign)
        for path, tree in trees():
            for at, node in enumerate(tree.body):
                docstring = at == 0 and isinstance(node, ast.Expr)
                self.assertTrue(docstring or isinstance(node, allowed), (path, node.lineno))

    def test_functions_have_no_decorators(self):
        for path, node in nodes(ast.Module):
            for child in node.body:
                self.assertFalse(getattr(child, "decorator_list", []), path)

    def test_builtins(self):
        for path, node in nodes(ast.Name):
            if hasattr(builtins, node.id):
                self.assertIn(node.id, BUILTINS, path)
                self.assertIsInstance(node.ctx, ast.Load, path)

    def test_no_definition_takes_a_builtin_name(self):
        for path, node in nodes(ast.FunctionDef, ast.ClassDef, ast.arg):
            name = node.arg if isinstance(node, ast.arg) else node.name
            self.assertFalse(hasattr(builtins, name) and name not in DUNDERS, (path, name))

    def test_a_name_is_bound_once_at_the_top_and_not_again_in_functions(self):
        for path, tree in trees():
            names = list(bound_at_the_top(tree))
            self.assertEqual(len(names), len(set(names)), path)
            for function in ast.walk(tree):
                if isinstance(function, ast.FunctionDef):
                    for node in ast.walk(function):
                        if isinstance(node, ast.arg):
                            self.assertNotIn(node.arg, names, (path, node.lineno))
                        elif isinstance(node, ast.Name) and isinstance(node.ctx, ast.Store):
                            self.assertNotIn(node.id, names, (path, node.lineno))

    def test_methods_of_builtin_values(self):
        own = {node.name for _, node in nodes(ast.FunctionDef)}
        for path, node in nodes(ast.Call):
            if isinstance(node.func, ast.Attribute):
                self.assertIn(node.func.attr, METHODS | own, (path, node.lineno))
                self.assertFalse(node.keywords and node.func.attr not in own, (path, node.lineno))

    def test_lists_stand_where_a_class_compares(self):
        for path, tree in trees():
            for node in calls_of(tree, "any", "all", "min", "max", "sum", "sorted"):
                self.assertNotIsInstance(node.args[0], ast.GeneratorExp, (path, node.lineno))

    def test_sets_are_only_asked(self):
        for path, tree in trees():
            above = parents(tree)
            for node in [*calls_of(tree, "set"), *[each for each in ast.walk(tree) if isinstance(each, ast.SetComp)]]:
                use = above[node]
                kept = isinstance(use, ast.Assign) and len(use.targets) == 1 and isinstance(use.targets[0], ast.Name)
                measured = use in calls_of(tree, "len", "sorted")
                self.assertTrue(kept or measured or isinstance(use, ast.Compare), (path, node.lineno))

    def test_kinds_are_compared_on_the_spot(self):
        for path, tree in trees():
            above = parents(tree)
            for node in calls_of(tree, "type"):
                self.assertIsInstance(above[node], ast.Compare, (path, node.lineno))
                self.assertTrue(all(isinstance(sign, (ast.Is, ast.IsNot)) for sign in above[node].ops))

    def test_exponents_are_literals(self):
        for path, node in nodes(ast.BinOp):
            if isinstance(node.op, ast.Pow):
                self.assertIsInstance(node.right, ast.Constant, (path, node.lineno))

    def test_words_that_are_not_used(self):
        for path, tree in trees():
            for name in code_names(tree):
                self.assertIsNone(UNUSED_WORDS.fullmatch(name), (path, name))

    def test_no_floats_and_no_percent_signs(self):
        for path, node in nodes(ast.Constant):
            self.assertNotIsInstance(node.value, (float, complex), path)
            self.assertFalse(isinstance(node.value, str) and "%" in node.value, path)
        self.assertEqual(nodes(ast.Div), [])

    def test_no_statement_outside_the_subset(self):
        self.assertEqual(nodes(ast.AsyncFunctionDef, ast.AsyncFor, ast.AsyncWith, ast.Await, ast.TryStar), [])


def attributes_of(node):
    """The names that the methods of a class assign to objects."""
    return {
        each.attr for each in ast.walk(node) if isinstance(each, ast.Attribute) and isinstance(each.ctx, ast.Store)
    }


class Classes(unittest.TestCase):
    def setUp(self):
        self.classes = [(path, node) for path, node in nodes(ast.ClassDef) if path.stem != "errors"]
        self.methods = [
            (path, method) for path, node in self.classes for method in node.body if isinstance(method, ast.FunctionDef)
        ]

    def test_there_are_some(self):
        self.assertEqual([node.name for _, node in self.classes], ["Console", "LiveLane"])

    def test_bodies_hold_docstrings_plain_values_and_methods(self):
        for path, node in self.classes:
            self.assertEqual((node.decorator_list, node.bases, node.keywords), ([], [], []))
            for at, held in enumerate(node.body):
                docstring = at == 0 and isinstance(held, ast.Expr)
                plain = isinstance(held, ast.Assign) and isinstance(held.value, ast.Constant)
                self.assertTrue(docstring or plain or isinstance(held, ast.FunctionDef), (path, held.lineno))

    def test_decorators(self):
        for path, method in self.methods:
            self.assertLessEqual(len(method.decorator_list), 1)
            for sign in method.decorator_list:
                self.assertIn(getattr(sign, "id", None), ["property", "classmethod", "staticmethod"], path)

    def test_names(self):
        for path, method in self.methods:
            self.assertTrue(method.name in DUNDERS or not method.name.startswith("__"), (path, method.name))
            self.assertNotIn(method.name, METHODS | NOT_OWN, path)
        for path, node in self.classes:
            self.assertFalse(attributes_of(node) & (METHODS | NOT_OWN), path)

    def test_a_name_has_one_meaning_in_a_class(self):
        for path, node in self.classes:
            names = [held.name for held in node.body if isinstance(held, ast.FunctionDef)]
            names.extend([target.id for held in node.body if isinstance(held, ast.Assign) for target in held.targets])
            names.extend(attributes_of(node))
            self.assertEqual(len(names), len(set(names)), path)

    def test_properties_and_comparisons_assign_nothing(self):
        for path, method in self.methods:
            told = [getattr(sign, "id", None) for sign in method.decorator_list]
            if "property" in told or method.name in DUNDERS - {"__init__"}:
                self.assertIsInstance(method.body[-1], ast.Return, (path, method.name))
                for each in ast.walk(method):
                    self.assertNotIsInstance(each, (ast.Assign, ast.AugAssign, ast.Delete), (path, method.name))

    def test_init_returns_nothing(self):
        for path, method in self.methods:
            if method.name == "__init__":
                self.assertFalse([each for each in ast.walk(method) if isinstance(each, ast.Return)], path)


if __name__ == "__main__":
    unittest.main()
