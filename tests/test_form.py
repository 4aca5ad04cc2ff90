"""The form of the code: those rules of LANGUAGE.md that can be seen in each file of the package by itself."""

import ast
import builtins
import pathlib
import unittest

PACKAGE = pathlib.Path(__file__).resolve().parent.parent / "anytempo"
LIBRARY = {
    "heapq": {"heappush", "heappop", "heapify", "heapreplace", "heappushpop"},
    "math": {"gcd", "lcm", "isqrt", "comb", "perm", "factorial"},
    "itertools": {"product", "combinations", "permutations", "chain", "accumulate", "pairwise", "islice",
                  "zip_longest"},
    "collections": {"defaultdict"},
}
BUILTINS = set("""len range enumerate zip min max sum abs sorted reversed int str bool bytes list tuple dict set
    isinstance ord repr any all divmod pow getattr hasattr setattr iter next property staticmethod classmethod super
    Exception ValueError TypeError KeyError IndexError LookupError ZeroDivisionError ArithmeticError OverflowError
    RuntimeError NotImplementedError AttributeError StopIteration NotImplemented""".split())
METHODS = set("""append clear copy count endswith extend find get index insert isalnum isalpha isdigit islower
    isspace isupper items join keys ljust lower lstrip partition pop remove replace reverse rfind rjust rpartition
    rsplit rstrip setdefault split splitlines startswith strip update upper values zfill bit_length title capitalize
    swapcase casefold center expandtabs removeprefix removesuffix rindex isascii isdecimal isnumeric istitle
    isidentifier isprintable translate sort add discard""".split())
SPECIAL = set("""init eq repr str len enter exit call iter lt le gt ge ne add sub mul floordiv mod and or xor neg pos
    invert abs bool contains getitem setitem""".split())
STATEMENTS = (ast.Global, ast.AsyncFunctionDef, ast.AsyncFor, ast.AsyncWith, ast.Await, ast.TryStar)
WORDS = ("typing", "typing_extensions", "enum", "Enum", "namedtuple", "NamedTuple", "dataclass", "overload",
         "contextmanager", "abstractmethod", "_wall", "_WallAttr")
NAMES = ("register", "mro", "elements", "open", "input", "law", "args")


def sources():
    return {path.name: path.read_text(encoding="utf-8") for path in sorted(PACKAGE.glob("*.py"))}


def trees():
    return {name: ast.parse(text) for name, text in sources().items()}


def nodes(kind):
    """All nodes of a kind, with the place of each one for the messages."""
    return [(node, f"{name}:{getattr(node, 'lineno', 0)}")
            for name, tree in trees().items() for node in ast.walk(tree) if isinstance(node, kind)]


def own_methods():
    return {node.name for node, _ in nodes(ast.FunctionDef)}


def docstrings():
    owners = nodes((ast.Module, ast.ClassDef, ast.FunctionDef))
    return {id(owner.body[0].value) for owner, _ in owners if owner.body and isinstance(owner.body[0], ast.Expr)}


class Files(unittest.TestCase):
    def test_only_files_of_the_language(self):
        for path in PACKAGE.rglob("*"):
            if "__pycache__" not in path.parts:
                self.assertEqual((path.is_file(), path.suffix), (True, ".py"), path)
                self.assertEqual(path.name, path.name.lower())
        self.assertTrue((PACKAGE / "__init__.py").exists())

    def test_size_and_characters(self):
        for name, text in sources().items():
            self.assertLessEqual(len(text.splitlines()), 399, name)
            self.assertLessEqual(max(map(len, text.splitlines())), 120, name)
            self.assertTrue(all(character == "\n" or " " <= character <= "~" for character in text), name)

    def test_size_of_functions(self):
        for node, place in nodes(ast.FunctionDef):
            self.assertLessEqual(node.end_lineno - node.lineno + 1, 40, place)


class Imports(unittest.TestCase):
    def test_no_module_is_imported_as_a_name(self):
        self.assertEqual([place for _, place in nodes(ast.Import)], [])

    def test_every_import_names_the_file_that_defines_it(self):
        for node, place in nodes(ast.ImportFrom):
            self.assertEqual(node.level, 0, place)
            names = [item.name for item in node.names]
            if node.module in LIBRARY:
                self.assertTrue(set(names) <= LIBRARY[node.module], place)
                self.assertEqual([item.asname for item in node.names if item.asname], [], place)
                continue
            package, file = node.module.split(".")
            self.assertEqual(package, "anytempo", place)
            self.assertTrue(set(names) <= defined(trees()[f"{file}.py"]), place)

    def test_every_import_is_used(self):
        for name, tree in trees().items():
            used = {node.id for node in ast.walk(tree) if isinstance(node, ast.Name)}
            for node in ast.walk(tree):
                if isinstance(node, ast.ImportFrom):
                    self.assertTrue({item.name for item in node.names} <= used, name)

    def test_no_two_files_import_from_each_other(self):
        above = {name: {node.module.split(".")[1] + ".py" for node in ast.walk(tree)
                        if isinstance(node, ast.ImportFrom) and node.module.startswith("anytempo.")}
                 for name, tree in trees().items()}
        while above:
            free = [name for name in above if not above[name] & set(above)]
            self.assertTrue(free, above)
            above = {name: below for name, below in above.items() if name not in free}


def defined(tree):
    """The names that a file itself binds at module level."""
    names = {node.name for node in tree.body if isinstance(node, (ast.FunctionDef, ast.ClassDef))}
    return names | {node.targets[0].id for node in tree.body if isinstance(node, ast.Assign)}


class Statements(unittest.TestCase):
    def test_module_level(self):
        for name, tree in trees().items():
            for node in tree.body:
                kinds = (ast.ImportFrom, ast.FunctionDef, ast.ClassDef, ast.Assign)
                plain = isinstance(node, ast.Expr) and isinstance(node.value, ast.Constant)
                self.assertTrue(plain or isinstance(node, kinds), f"{name}:{node.lineno}")
            bound = [node.name for node in tree.body if isinstance(node, (ast.FunctionDef, ast.ClassDef))]
            bound = bound + [node.targets[0].id for node in tree.body if isinstance(node, ast.Assign)]
            self.assertEqual(len(bound), len(set(bound)), name)

    def test_no_barred_statements(self):
        self.assertEqual([place for _, place in nodes(STATEMENTS)], [])

    def test_decorators(self):
        for node, place in nodes((ast.FunctionDef, ast.ClassDef)):
            for item in node.decorator_list:
                self.assertIn(ast.unparse(item).split(".")[-1], ["property", "setter", "staticmethod", "classmethod"],
                              place)

    def test_errors_are_caught_by_name_and_made_on_the_spot(self):
        for node, place in nodes(ast.ExceptHandler):
            self.assertIsNotNone(node.type, place)
        for node, place in nodes(ast.Raise):
            self.assertTrue(node.exc is None or isinstance(node.exc, ast.Call), place)


class Expressions(unittest.TestCase):
    def test_numbers_and_strings(self):
        documented = docstrings()
        for node, place in nodes(ast.Constant):
            self.assertNotIsInstance(node.value, (float, complex, bytes), place)
            if isinstance(node.value, str) and id(node) not in documented:
                self.assertNotIn(chr(37), node.value, place)
        self.assertEqual([place for _, place in nodes(ast.Div)], [])

    def test_no_generator_expressions_beside_a_class_that_compares(self):
        self.assertEqual([place for _, place in nodes(ast.GeneratorExp)], [])

    def test_only_builtins_of_the_language(self):
        for node, place in nodes(ast.Name):
            if node.id in dir(builtins):
                self.assertIn(node.id, BUILTINS, place)
                self.assertIsInstance(node.ctx, ast.Load, place)

    def test_only_methods_of_the_language(self):
        for node, place in nodes(ast.Call):
            if isinstance(node.func, ast.Attribute) and not node.func.attr.startswith("__"):
                self.assertIn(node.func.attr, METHODS | own_methods(), place)

    def test_names(self):
        for node, place in nodes(ast.FunctionDef):
            if node.name.startswith("__"):
                self.assertIn(node.name.strip("_"), SPECIAL, place)
            names = [node.name] + [item.arg for item in ast.walk(node.args) if isinstance(item, ast.arg)]
            for name in names:
                self.assertNotIn(name, NAMES, place)
                self.assertTrue(name.startswith("__") or name not in dir(builtins), place)

    def test_barred_words(self):
        for name, text in sources().items():
            for word in WORDS:
                self.assertNotIn(word, text, name)

    def test_is_stands_beside_none_true_and_false(self):
        for node, place in nodes(ast.Compare):
            for operator, right in zip(node.ops, node.comparators):
                if isinstance(operator, (ast.Is, ast.IsNot)):
                    self.assertIsInstance(right, ast.Constant, place)


if __name__ == "__main__":
    unittest.main()
