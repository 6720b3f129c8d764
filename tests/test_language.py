"""The form of the program, as far as a test can see it easily (LANGUAGE.md)."""

import ast
import builtins
import pathlib
import unittest

PACKAGE = pathlib.Path(__file__).resolve().parent.parent / "watervalves"
FILES = sorted(PACKAGE.rglob("*.py"))
TREES = {path.stem: ast.parse(path.read_text(encoding="utf-8")) for path in FILES}
NODES = [(name, node) for name, tree in TREES.items() for node in ast.walk(tree)]

LIBRARY = {
    "heapq": {"heappush", "heappop", "heapify", "heapreplace", "heappushpop"},
    "math": {"gcd", "lcm", "isqrt", "comb", "perm", "factorial"},
    "itertools": {
        *("product", "combinations", "permutations", "chain"),
        *("accumulate", "pairwise", "islice", "zip_longest"),
    },
    "collections": {"defaultdict"},
}
ALLOWED_BUILTINS = set(
    "len range enumerate zip min max sum abs sorted reversed int str bool bytes list tuple dict set"
    " frozenset isinstance ord repr any all divmod pow getattr hasattr setattr iter next map super"
    " property staticmethod classmethod object Exception ValueError TypeError KeyError IndexError"
    " LookupError ZeroDivisionError ArithmeticError OverflowError RuntimeError NotImplementedError"
    " AttributeError StopIteration NotImplemented".split()
)
METHODS = set(
    "append clear copy count endswith extend find get index insert isalnum isalpha isdigit islower"
    " isspace isupper items join keys ljust lower lstrip partition pop remove replace reverse rfind"
    " rjust rpartition rsplit rstrip setdefault split splitlines startswith strip update upper"
    " values zfill bit_length title capitalize swapcase casefold center expandtabs removeprefix"
    " removesuffix rindex isascii isdecimal isnumeric istitle isidentifier isprintable translate"
    " add discard sort format".split()
)
BARRED_NAMES = {"register", "mro", "elements", "open", "input", "law", "version_info", "add_note"}
BARRED_NODES = (
    ast.Global,
    ast.AsyncFunctionDef,
    ast.AsyncFor,
    ast.AsyncWith,
    ast.Await,
    ast.Div,
    ast.MatMult,
    ast.Import,
)


def bound_names(node):
    """Return the names that a node gives a meaning, attributes and methods aside."""
    if isinstance(node, ast.Name) and not isinstance(node.ctx, ast.Load):
        return [node.id]
    if isinstance(node, ast.arg):
        return [node.arg]
    if isinstance(node, ast.ClassDef):
        return [node.name]
    if isinstance(node, ast.ExceptHandler) and node.name:
        return [node.name]
    return []


class Files(unittest.TestCase):
    def test_only_plain_files(self):
        for path in PACKAGE.rglob("*"):
            if "__pycache__" not in path.parts:
                with self.subTest(str(path)):
                    self.assertTrue(path.is_dir() or path.suffix == ".py")
                    self.assertEqual(path.name, path.name.lower())

    def test_characters_and_sizes(self):
        for path in FILES:
            text = path.read_bytes().decode("ascii")
            with self.subTest(path.name):
                self.assertTrue(all(char == "\n" or " " <= char <= "~" for char in text))
                self.assertLessEqual(len(text.split("\n")), 399)
                self.assertLessEqual(max(map(len, text.split("\n"))), 120)

    def test_functions_have_at_most_40_lines(self):
        for name, node in NODES:
            if isinstance(node, ast.FunctionDef):
                with self.subTest(file=name, function=node.name):
                    self.assertLessEqual(node.end_lineno - node.lineno + 1, 40)

    def test_module_level(self):
        allowed = (ast.ImportFrom, ast.FunctionDef, ast.ClassDef, ast.Assign)
        for name, tree in TREES.items():
            for index, node in enumerate(tree.body):
                docstring = index == 0 and isinstance(node, ast.Expr)
                with self.subTest(file=name, line=node.lineno):
                    self.assertTrue(docstring or isinstance(node, allowed))


class Imports(unittest.TestCase):
    def imported(self, tree):
        return [node for node in ast.walk(tree) if isinstance(node, ast.ImportFrom)]

    def test_imports_name_the_file_that_defines(self):
        for name, tree in TREES.items():
            for node in self.imported(tree):
                with self.subTest(file=name, module=node.module):
                    self.assertEqual(node.level, 0)
                    names = {alias.name for alias in node.names}
                    if node.module in LIBRARY:
                        self.assertLessEqual(names, LIBRARY[node.module])
                    else:
                        package, file = node.module.split(".")
                        self.assertEqual(package, "watervalves")
                        self.assertLessEqual(names, self.defined(TREES[file]))

    def defined(self, tree):
        found = set()
        for node in tree.body:
            if isinstance(node, (ast.FunctionDef, ast.ClassDef)):
                found.add(node.name)
            elif isinstance(node, ast.Assign):
                found.update(target.id for target in node.targets)
        return found

    def test_no_two_files_import_from_each_other(self):
        edges = {
            name: {node.module.split(".")[1] for node in self.imported(tree) if "." in node.module}
            for name, tree in TREES.items()
        }
        while edges:
            leaves = [name for name, others in edges.items() if not others & set(edges)]
            self.assertTrue(leaves, edges)
            for name in leaves:
                del edges[name]


class Names(unittest.TestCase):
    def test_no_builtin_gets_another_meaning(self):
        for name, node in NODES:
            for bound in bound_names(node):
                with self.subTest(file=name, line=getattr(node, "lineno", None), name=bound):
                    self.assertFalse(hasattr(builtins, bound))
                    self.assertNotIn(bound, BARRED_NAMES)

    def test_no_function_has_the_name_of_a_builtin(self):
        for name, tree in TREES.items():
            for node in tree.body:
                if isinstance(node, ast.FunctionDef):
                    self.assertFalse(hasattr(builtins, node.name), (name, node.name))

    def test_other_builtins_are_not_used(self):
        for name, node in NODES:
            if isinstance(node, ast.Name) and hasattr(builtins, node.id):
                with self.subTest(file=name, line=node.lineno):
                    self.assertIn(node.id, ALLOWED_BUILTINS)

    def test_methods(self):
        own = {node.name for _, node in NODES if isinstance(node, ast.FunctionDef)}
        for name, node in NODES:
            if isinstance(node, ast.Call) and isinstance(node.func, ast.Attribute):
                with self.subTest(file=name, line=node.lineno):
                    self.assertIn(node.func.attr, METHODS | own)

    def test_a_local_name_is_not_that_of_an_import_or_a_class_of_its_file(self):
        for name, tree in TREES.items():
            taken = {node.name for node in tree.body if isinstance(node, ast.ClassDef)}
            for node in tree.body:
                if isinstance(node, ast.ImportFrom):
                    taken.update(alias.name for alias in node.names)
            for node in ast.walk(tree):
                if not isinstance(node, ast.ClassDef):
                    self.assertFalse(taken.intersection(bound_names(node)), name)


class Expressions(unittest.TestCase):
    def test_statements_and_operators(self):
        for name, node in NODES:
            with self.subTest(file=name, line=getattr(node, "lineno", None)):
                self.assertNotIsInstance(node, BARRED_NODES)

    def test_decorators(self):
        for name, node in NODES:
            if isinstance(node, (ast.FunctionDef, ast.ClassDef)):
                with self.subTest(file=name, line=node.lineno):
                    words = [ast.unparse(one) for one in node.decorator_list]
                    self.assertIn(words, ([], ["property"], ["classmethod"], ["staticmethod"]))

    def test_a_property_changes_nothing(self):
        for name, node in NODES:
            if isinstance(node, ast.FunctionDef) and "property" in map(ast.unparse, node.decorator_list):
                for part in ast.walk(node):
                    with self.subTest(file=name, line=node.lineno):
                        self.assertNotIsInstance(part, (ast.AugAssign, ast.Delete))
                        if isinstance(part, (ast.Attribute, ast.Subscript)):
                            self.assertIsInstance(part.ctx, ast.Load)

    def test_strings(self):
        for name, node in NODES:
            if isinstance(node, ast.Constant):
                with self.subTest(file=name, line=node.lineno):
                    self.assertNotIsInstance(node.value, (float, complex))
                    if isinstance(node.value, str):
                        self.assertNotIn("%", node.value)


if __name__ == "__main__":
    unittest.main()
