"""The form of the code: the rules of LANGUAGE.md that can be seen in a syntax tree; each test names its rules."""

import ast
import builtins
import io
import re
import tokenize
import unittest
import warnings

from form import (
    LIBRARY, PACKAGE, PARENTS, SOURCES, TREES, bound_in, called, classes, defined, docstrings, imported, nodes,
    own_methods, within,
)

BUILTINS = set("""len range enumerate zip min max sum abs sorted reversed int str bool bytes list tuple dict set
    isinstance ord repr any all divmod pow getattr hasattr setattr iter next property staticmethod classmethod super
    Exception ValueError TypeError KeyError IndexError LookupError ZeroDivisionError ArithmeticError OverflowError
    RuntimeError NotImplementedError AttributeError StopIteration NotImplemented""".split())
METHODS = set("""append clear copy count endswith extend find get index insert isalnum isalpha isdigit islower
    isspace isupper items join keys ljust lower lstrip partition pop remove replace reverse rfind rjust rpartition
    rsplit rstrip setdefault split splitlines startswith strip update upper values zfill bit_length title capitalize
    swapcase casefold center expandtabs removeprefix removesuffix rindex isascii isdecimal isnumeric istitle
    isidentifier isprintable translate add discard""".split())
CHANGING = set("append clear extend insert pop remove reverse setdefault update add discard sort".split())
SPECIAL = set("""init eq repr str len enter exit call iter lt le gt ge ne add sub mul floordiv mod and or xor neg pos
    invert abs bool contains getitem setitem""".split())
UNCHANGING = SPECIAL - {"init", "enter", "exit", "call", "setitem"}
STATEMENTS = (ast.Assign, ast.AugAssign, ast.AnnAssign, ast.If, ast.While, ast.For, ast.Return, ast.Break, ast.Continue,
              ast.Pass, ast.Raise, ast.Assert, ast.Delete, ast.Nonlocal, ast.Match, ast.With, ast.Try, ast.Expr,
              ast.FunctionDef, ast.ClassDef, ast.ImportFrom)
BARRED_NAMES = set("register mro elements open input law version_info with_traceback add_note args".split())
BARRED_VARIABLES = set("""attrgetter breakpoint builtins compile copyright credits delattr dir eval exec exit gc getattr
    globals hasattr help id importlib license locals methodcaller os quit setattr super type vars sys""".split())
BARRED_WORDS = """typing typing_extensions enum Enum IntEnum StrEnum Flag IntFlag Generic Protocol ABC ABCMeta
    namedtuple NamedTuple TypedDict TYPE_CHECKING abstractmethod""".split()
BARRED_PARTS = ("dataclass", "overload", "contextmanager", "_wall", "_WallAttr")
BARRED_FILES = set("law test tests testing site conftest sitecustomize usercustomize".split()) | BARRED_VARIABLES
ITERATED = {"zip", "enumerate", "range", "reversed"}
VIEWS = {"items", "keys", "values"}
ITERATING = {"list", "tuple", "dict", "sorted", "sum", "any", "all", "enumerate", "zip", "min", "max"}
KEYWORDS = {"sorted": {"key", "reverse"}, "min": {"key", "default"}, "max": {"key", "default"}, "sum": {"start"},
            "enumerate": {"start"}, "zip": {"strict"}}
CAUGHT = {"KeyError", "ZeroDivisionError"}


class Files(unittest.TestCase):
    def test_only_files_of_the_language(self):
        """L1, L14."""
        for path in PACKAGE.rglob("*"):
            if "__pycache__" not in path.parts:
                self.assertEqual((path.is_file(), path.suffix), (True, ".py"), path)
                self.assertRegex(path.stem, r"^([a-z][a-z0-9_]*|__init__|__main__)$")
                self.assertNotIn(path.stem, BARRED_FILES | set(dir(builtins)) | set(LIBRARY))
                self.assertFalse(path.stem.startswith(("law_", "test_")), path)
        self.assertTrue((PACKAGE / "__init__.py").exists())
        self.assertLessEqual(len(SOURCES), 100)

    def test_size_and_characters(self):
        """L10, L14."""
        for name, text in SOURCES.items():
            self.assertLessEqual(len(text.splitlines()), 399, name)
            self.assertLessEqual(max(map(len, text.splitlines())), 120, name)
            self.assertTrue(all(character == "\n" or " " <= character <= "~" for character in text), name)

    def test_size_of_functions(self):
        """L10."""
        for node, place in nodes(ast.FunctionDef):
            self.assertLessEqual(node.end_lineno - node.lineno + 1, 40, place)

    def test_no_warnings(self):
        """L27."""
        with warnings.catch_warnings():
            warnings.simplefilter("error")
            for name, text in SOURCES.items():
                compile(text, name, "exec")


class Imports(unittest.TestCase):
    def test_no_module_is_imported_as_a_name(self):
        """L2, L16."""
        self.assertEqual([place for _, place in nodes(ast.Import)], [])

    def test_imports_stand_at_the_top(self):
        """L2."""
        for name, tree in TREES.items():
            kinds = [isinstance(node, ast.ImportFrom) for node in tree.body if not isinstance(node, ast.Expr)]
            self.assertEqual(kinds, sorted(kinds, reverse=True), name)
            self.assertEqual(len(within(tree, ast.ImportFrom)), sum(kinds), name)

    def test_every_import_names_the_file_that_defines_it(self):
        """L2, L16."""
        for node, place in nodes(ast.ImportFrom):
            self.assertEqual(node.level, 0, place)
            names = [item.name for item in node.names]
            self.assertEqual([item.asname for item in node.names if item.asname], [], place)
            if node.module in LIBRARY:
                self.assertTrue(set(names) <= LIBRARY[node.module], place)
                continue
            package, file = node.module.split(".")
            self.assertEqual(package, "anytempo", place)
            self.assertTrue(set(names) <= set(defined(TREES[f"{file}.py"])), place)

    def test_names_of_the_library_are_only_called_in_functions(self):
        """L2."""
        names = {name for part in LIBRARY.values() for name in part}
        for node, place in nodes(ast.Name):
            if node.id in names:
                self.assertIs(getattr(PARENTS[node], "func", None), node, place)
                self.assertEqual(PARENTS[node].keywords, [], place)
                self.assertFalse(any(isinstance(item, ast.Starred) for item in PARENTS[node].args), place)
        for node, place in nodes(ast.FunctionDef):
            self.assertFalse(names & set(bound_in(node)), place)

    def test_every_import_is_used(self):
        for name, tree in TREES.items():
            used = {node.id for node in within(tree, ast.Name)}
            self.assertTrue(set(imported(tree)) <= used, name)

    def test_no_two_files_import_from_each_other(self):
        """L16."""
        above = {name: {node.module.split(".")[1] + ".py" for node in within(tree, ast.ImportFrom)
                        if node.module.startswith("anytempo.")} for name, tree in TREES.items()}
        while above:
            free = [name for name in above if not above[name] & set(above)]
            self.assertTrue(free, above)
            above = {name: below for name, below in above.items() if name not in free}


class Statements(unittest.TestCase):
    def test_module_level(self):
        """L3, L15."""
        for name, tree in TREES.items():
            for node in tree.body:
                kinds = (ast.ImportFrom, ast.FunctionDef, ast.ClassDef, ast.Assign)
                self.assertTrue(isinstance(node, kinds) or getattr(node, "value", None) in docstrings(),
                                f"{name}:{node.lineno}")
            bound = defined(tree) + imported(tree)
            self.assertEqual(len(bound), len(set(bound)), name)

    def test_values_at_module_level(self):
        """L3, L15."""
        for name, tree in TREES.items():
            for node in tree.body:
                if isinstance(node, ast.Assign):
                    self.assertEqual([target.__class__ for target in node.targets], [ast.Name], name)
                    functions = "|".join(defined(tree))
                    value = ast.literal_eval(re.sub(rf"\b({functions})\b", "0", ast.unparse(node.value)))
                    items = list(value.values()) if isinstance(value, dict) else value
                    if isinstance(items, (list, tuple)):
                        self.assertFalse(any(isinstance(item, (list, dict)) for item in items), name)

    def test_what_stands_at_module_level_is_not_changed(self):
        """L15."""
        for name, tree in TREES.items():
            kept = {node.targets[0].id for node in tree.body if isinstance(node, ast.Assign)} | set(imported(tree))
            for node in within(tree, ast.Attribute):
                if isinstance(node.value, ast.Name) and node.value.id in kept:
                    self.assertNotIn(node.attr, CHANGING, f"{name}:{node.lineno}")
            for node in within(tree, ast.Subscript):
                if isinstance(node.value, ast.Name) and node.value.id in kept:
                    self.assertIsInstance(node.ctx, ast.Load, f"{name}:{node.lineno}")

    def test_only_statements_of_the_language(self):
        """L6."""
        for node, place in nodes(ast.stmt):
            self.assertIsInstance(node, STATEMENTS, place)
            if isinstance(node, ast.Expr) and node.value not in docstrings():
                self.assertIsInstance(node.value, (ast.Call, ast.Yield, ast.YieldFrom), place)

    def test_classes(self):
        """L5."""
        for node, place in nodes(ast.ClassDef):
            self.assertIn(node, TREES[place.split(":")[0]].body, place)
            self.assertEqual([node.decorator_list, node.keywords], [[], []], place)
            for item in node.body:
                plain = isinstance(item, ast.Expr) and item.value in docstrings()
                self.assertTrue(plain or isinstance(item, (ast.FunctionDef, ast.Assign)), place)
            names = [item.name for item in node.body if isinstance(item, ast.FunctionDef) and not item.decorator_list]
            self.assertEqual(len(names), len(set(names)), place)

    def test_methods_and_attributes_have_different_names(self):
        """L18."""
        for node, place in nodes(ast.ClassDef):
            methods = {item.name for item in node.body if isinstance(item, ast.FunctionDef)}
            stored = {item.attr for item in within(node, ast.Attribute) if isinstance(item.ctx, ast.Store)}
            self.assertFalse(methods & stored, place)

    def test_attributes_that_are_read_are_assigned(self):
        """L18, L25."""
        stored = {item.attr for item, _ in nodes(ast.Attribute) if isinstance(item.ctx, ast.Store)}
        for node, place in nodes(ast.Attribute):
            if getattr(PARENTS[node], "func", None) is not node:
                self.assertIn(node.attr, stored | {"top", "bottom"}, place)

    def test_attributes_are_assigned_through_local_names(self):
        """L18."""
        for node, place in nodes(ast.Attribute):
            if isinstance(node.ctx, ast.Store):
                self.assertIsInstance(node.value, ast.Name, place)
                self.assertNotIn(node.value.id, classes(), place)

    def test_decorators(self):
        """L4, L5."""
        for node, place in nodes(ast.FunctionDef):
            for item in node.decorator_list:
                self.assertIn(ast.unparse(item).split(".")[-1], ["property", "setter", "staticmethod", "classmethod"],
                              place)

    def test_default_values_and_annotations(self):
        """L4, L21."""
        for node, place in nodes(ast.arguments):
            for value in [*node.defaults, *[item for item in node.kw_defaults if item]]:
                self.assertNotIsInstance(ast.literal_eval(value), (list, dict, set), place)
            self.assertEqual([item.annotation for item in within(node, ast.arg) if item.annotation], [], place)
        for node, place in nodes(ast.FunctionDef):
            self.assertIsNone(node.returns, place)
        for node, place in nodes(ast.Lambda):
            self.assertEqual([node.args.vararg, node.args.kwarg, node.args.kwonlyargs], [None, None, []], place)

    def test_errors_are_caught_by_name_and_made_on_the_spot(self):
        """L19."""
        errors = {node.name for node, place in nodes(ast.ClassDef) if place.startswith("errors.py")}
        for node, place in nodes(ast.ExceptHandler):
            self.assertIsNotNone(node.type, place)
            for name in within(node.type, ast.Name):
                self.assertIn(name.id, errors | CAUGHT, place)
        for node, place in nodes(ast.Raise):
            self.assertTrue(node.exc is None or called(node.exc) in errors, place)

    def test_what_a_loop_goes_over_is_not_changed_in_it(self):
        """L23."""
        for node, place in nodes(ast.For):
            over = {ast.unparse(item) for item in within(node.iter, ast.Name, ast.Attribute)} - own_methods()
            for item in within(ast.Module(node.body, []), ast.Attribute):
                if item.attr in CHANGING and getattr(PARENTS[item], "func", None) is item:
                    self.assertNotIn(ast.unparse(item.value), over, place)
            for item in within(ast.Module(node.body, []), ast.Subscript):
                if not isinstance(item.ctx, ast.Load):
                    self.assertNotIn(ast.unparse(item.value), over, place)


class DoubleUnderscores(unittest.TestCase):
    def methods(self):
        return [(node, place) for node, place in nodes(ast.FunctionDef) if node.name.startswith("__")]

    def test_only_those_of_the_language(self):
        """L5, L28."""
        for node, place in self.methods():
            self.assertIn(node.name.strip("_"), SPECIAL, place)
            self.assertIsInstance(PARENTS[node], ast.ClassDef, place)
            if node.name not in ["__init__", "__call__", "__exit__"]:
                self.assertEqual([node.args.defaults, node.args.vararg], [[], None], place)

    def test_initialising_returns_nothing(self):
        """L28."""
        for node, place in self.methods():
            if node.name == "__init__":
                self.assertEqual(within(node, ast.Return), [], place)

    def test_lengths(self):
        """L28."""
        for node, place in self.methods():
            if node.name == "__len__":
                self.assertIsInstance(node.body[-1], ast.Return, place)
                for item in within(node, ast.Return):
                    self.assertTrue(called(item.value) == "len" or isinstance(item.value, ast.Constant), place)

    def test_equality(self):
        """L5."""
        for node, place in self.methods():
            if node.name == "__eq__":
                self.assertRegex(ast.unparse(node.body[-1]), r"^return isinstance\(other, \w+\) and self\.", place)

    def test_operators_and_properties_change_nothing(self):
        """L5."""
        properties = [(node, place) for node, place in nodes(ast.FunctionDef) if node.decorator_list]
        for node, place in [item for item in self.methods() if item[0].name.strip("_") in UNCHANGING] + properties:
            for item in within(node, ast.Attribute, ast.Subscript):
                self.assertIsInstance(item.ctx, ast.Load, place)
                self.assertNotIn(getattr(item, "attr", ""), CHANGING, place)

    def test_operators_are_used_by_their_signs(self):
        """L5, L8, L12."""
        for node, place in nodes(ast.Attribute):
            if node.attr.startswith("__"):
                self.assertIn(node.attr, ["__init__"], place)


class Expressions(unittest.TestCase):
    def test_numbers_and_strings(self):
        """L7, L27."""
        documented = docstrings()
        for node, place in nodes(ast.Constant):
            self.assertNotIsInstance(node.value, (float, complex, bytes), place)
            if isinstance(node.value, str) and node not in documented:
                self.assertNotIn(chr(37), node.value, place)
                self.assertFalse(node.value.endswith(("._", ".__")), place)
                self.assertFalse(re.match(r"__.*__$", node.value), place)
        self.assertEqual([place for _, place in nodes(ast.Div)], [])

    def test_escapes(self):
        """L27."""
        for name, text in SOURCES.items():
            for token in tokenize.generate_tokens(io.StringIO(text).readline):
                if token.type == tokenize.STRING:
                    rest = re.sub(r"\\[nt\\'\"]", "", token.string)
                    self.assertNotIn("\\", rest, f"{name}:{token.start[0]}")

    def test_exponents(self):
        """L27."""
        for node, place in nodes(ast.BinOp):
            if isinstance(node.op, ast.Pow):
                self.assertTrue(isinstance(node.right, ast.Constant) and 0 <= node.right.value <= 64, place)
        self.assertEqual([place for node, place in nodes(ast.Call) if called(node) == "pow"], [])

    def test_no_generator_expressions_beside_a_class_that_compares(self):
        """L7."""
        self.assertEqual([place for _, place in nodes(ast.GeneratorExp)], [])

    def test_comprehensions(self):
        """L7."""
        for node, place in nodes(ast.ListComp, ast.DictComp, ast.SetComp):
            self.assertLessEqual(len(node.generators), 6, place)
            self.assertLessEqual(sum(len(part.ifs) for part in node.generators), 12, place)

    def test_stars_in_calls(self):
        """L7."""
        for node, place in nodes(ast.Call):
            for index, item in enumerate(node.args):
                if isinstance(item, ast.Starred):
                    self.assertIsInstance(item.value, (ast.Name, ast.Attribute, ast.List, ast.Tuple), place)
                    self.assertTrue(called(node) in own_methods() | {"max", "min", "zip"}, place)
            self.assertTrue(all(item.arg for item in node.keywords), place)

    def test_lambdas(self):
        """L4, L13."""
        places = [place for _, place in nodes(ast.Lambda)]
        self.assertEqual(len(places), len(set(places)))
        for node, place in nodes(ast.Lambda):
            self.assertEqual([node.args.defaults, node.args.posonlyargs], [[], []], place)

    def test_texts_with_braces(self):
        """L7, L27: within the braces stand no strings, and no format is told."""
        for node, place in nodes(ast.FormattedValue):
            self.assertIsNone(node.format_spec, place)
            self.assertFalse([item for item in within(node, ast.Constant) if isinstance(item.value, str)], place)
            self.assertIn(node.conversion, [-1, ord("r"), ord("s")], place)

    def test_what_tables_hold_is_called_by_a_name(self):
        """L3, L7."""
        for node, place in nodes(ast.Call):
            self.assertIsInstance(node.func, (ast.Name, ast.Attribute), place)

    def test_nothing_is_divided_into_floats_and_no_star_stands_in_a_set(self):
        """L7."""
        for node, place in nodes(ast.Starred):
            self.assertIsInstance(PARENTS[node], (ast.Call, ast.Tuple, ast.List, ast.Assign), place)
        for node, place in nodes(ast.Dict):
            self.assertNotIn(None, node.keys, place)

    def test_only_builtins_of_the_language(self):
        """L8, L22."""
        for node, place in nodes(ast.Name):
            if node.id in dir(builtins):
                self.assertIn(node.id, BUILTINS, place)
                self.assertIsInstance(node.ctx, ast.Load, place)

    def test_builtins_are_called(self):
        """L22."""
        for node, place in nodes(ast.Name):
            if node.id in BUILTINS and node.id not in ["int", "str", "bool", "list", "tuple", "dict", "property"]:
                above = PARENTS[node]
                fine = getattr(above, "func", None) is node or isinstance(above, (ast.ClassDef, ast.ExceptHandler))
                self.assertTrue(fine or isinstance(above, ast.keyword) and above.arg == "key", place)

    def test_keywords_of_builtins(self):
        """L22, L25."""
        for node, place in nodes(ast.Call):
            names = {item.arg for item in node.keywords}
            if called(node) in BUILTINS:
                self.assertTrue(names <= KEYWORDS.get(called(node), set()), place)
            if isinstance(node.func, ast.Attribute) and node.func.attr in METHODS:
                self.assertEqual(names, set(), place)

    def test_arguments_of_own_functions(self):
        """L22: each call passes names that the function has, and no more than it takes."""
        functions = {node.name: node.args for tree in TREES.values() for node in tree.body
                     if isinstance(node, ast.FunctionDef)}
        for node, place in nodes(ast.Call):
            if called(node) in functions and not any(isinstance(item, ast.Starred) for item in node.args):
                taken = functions[called(node)]
                names = [item.arg for item in taken.args]
                named = {item.arg for item in node.keywords}
                self.assertTrue(named <= set(names) | {item.arg for item in taken.kwonlyargs}, place)
                if not taken.vararg:
                    self.assertLessEqual(len(node.args), len(names), place)
                    needed = names[len(node.args):len(names) - len(taken.defaults)]
                    self.assertTrue(set(needed) <= named, place)

    def test_only_methods_of_the_language(self):
        """L25."""
        for node, place in nodes(ast.Call):
            if isinstance(node.func, ast.Attribute) and not node.func.attr.startswith("__"):
                self.assertIn(node.func.attr, METHODS | own_methods(), place)

    def test_methods_are_called(self):
        """L25."""
        for node, place in nodes(ast.Attribute):
            if node.attr in METHODS and isinstance(node.ctx, ast.Load):
                self.assertIs(getattr(PARENTS[node], "func", None), node, place)

    def test_is_stands_beside_none_true_and_false(self):
        """L20."""
        for node, place in nodes(ast.Compare):
            for operator, right in zip(node.ops, node.comparators):
                if isinstance(operator, (ast.Is, ast.IsNot)):
                    self.assertIsInstance(right, ast.Constant, place)

    def test_classes_are_not_stored(self):
        """L18."""
        for node, place in nodes(ast.Name):
            if node.id in classes():
                above = PARENTS[node]
                kinds = (ast.ClassDef, ast.ExceptHandler, ast.Raise)
                inside = called(above) == "isinstance" and above.args[0] is not node
                self.assertTrue(isinstance(above, kinds) or inside or getattr(above, "func", None) is node, place)


class Iterating(unittest.TestCase):
    def is_iterated(self, node):
        """Whether what a node makes is iterated on the spot."""
        above = PARENTS[node]
        if isinstance(above, (ast.For, ast.comprehension)):
            return above.iter is node
        return called(above) in ITERATING and above.args[0] is node

    def test_what_is_iterated_at_once(self):
        """L23."""
        for node, place in nodes(ast.Call):
            view = isinstance(node.func, ast.Attribute) and node.func.attr in VIEWS
            if called(node) not in ITERATED and not view:
                continue
            above = PARENTS[node]
            fine = self.is_iterated(node) or called(above) == "reversed" and called(node) == "range"
            if isinstance(above, ast.Call) and isinstance(above.func, ast.Attribute) and above.func.attr == "join":
                fine = isinstance(above.func.value, ast.Constant)
            if called(above) == "zip":
                fine = node in above.args
            self.assertTrue(fine, place)

    def test_generators(self):
        """L23."""
        names = {node.name for node, _ in nodes(ast.FunctionDef) if within(node, ast.Yield, ast.YieldFrom)}
        for node, place in nodes(ast.Name):
            if node.id in names:
                passed_on = isinstance(PARENTS[PARENTS[node]], ast.YieldFrom)
                self.assertTrue(passed_on or self.is_iterated(PARENTS[node]), place)

    def test_what_generators_are_made_of(self):
        """L23."""
        made = [(node, place) for node, place in nodes(ast.FunctionDef) if within(node, ast.Yield, ast.YieldFrom)]
        names = [node.name for node, _ in nodes(ast.FunctionDef)]
        for node, place in made:
            self.assertEqual(names.count(node.name), 1, place)
            self.assertFalse(node.name in METHODS or node.decorator_list or node.name.startswith("__"), place)
            self.assertEqual(within(node, ast.Try, ast.With), [], place)
            self.assertEqual([item.value for item in within(node, ast.Return) if item.value], [], place)
            for item in within(node, ast.Yield, ast.YieldFrom):
                self.assertIsInstance(PARENTS[item], ast.Expr, place)
            for other, _ in nodes(ast.FunctionDef):
                self.assertFalse(other is not node and node.name in bound_in(other), place)

    def test_sets(self):
        """L24."""
        for node, place in nodes(ast.Call, ast.SetComp, ast.Set):
            if isinstance(node, ast.Call) and called(node) not in ["set", "frozenset"]:
                continue
            above = PARENTS[node]
            kept = isinstance(above, ast.Assign) and isinstance(above.targets[0], ast.Name)
            tested = isinstance(above, ast.Compare) and isinstance(above.ops[0], (ast.In, ast.NotIn, ast.Eq, ast.NotEq))
            self.assertTrue(kept or tested or called(above) in ["sorted", "len"], place)
            self.assertLess(len(getattr(node, "elts", [])), 3, place)


class Names(unittest.TestCase):
    def all_names(self):
        found = [(node.id, place) for node, place in nodes(ast.Name)]
        found = found + [(node.name, place) for node, place in nodes(ast.FunctionDef, ast.ClassDef)]
        found = found + [(node.arg, place) for node, place in nodes(ast.arg, ast.keyword)]
        return found + [(node.attr, place) for node, place in nodes(ast.Attribute)]

    def test_plain_names(self):
        """L12, L17."""
        for name, place in self.all_names():
            self.assertRegex(name, r"^(_?[A-Za-z][A-Za-z0-9_]*|_|__[a-z]+__)$", place)
            self.assertNotIn(name, BARRED_NAMES, place)
        for node, place in nodes(ast.ClassDef):
            self.assertRegex(node.name, r"^[A-Z]", place)

    def test_the_lone_underscore_is_not_read(self):
        """L12."""
        read = [place for node, place in nodes(ast.Name) if node.id == "_" and isinstance(node.ctx, ast.Load)]
        self.assertEqual(read, [])

    def test_names_of_functions_parameters_and_variables(self):
        """L15, L17."""
        for node, place in nodes(ast.FunctionDef):
            method = isinstance(PARENTS[node], ast.ClassDef)
            for name in bound_in(node) + ([] if method else [node.name]):
                self.assertNotIn(name, BARRED_VARIABLES | set(dir(builtins)), place)
            self.assertNotIn(node.name, BARRED_VARIABLES | BUILTINS, place)

    def test_local_names_are_not_those_of_classes_and_imports(self):
        """L15."""
        for name, tree in TREES.items():
            barred = set(imported(tree)) | {node.name for node in within(tree, ast.ClassDef)}
            for node in within(tree, ast.FunctionDef, ast.Lambda):
                self.assertFalse(barred & set(bound_in(node)), f"{name}:{node.lineno}")

    def test_barred_words(self):
        """L12, L17."""
        for name, text in SOURCES.items():
            for word in BARRED_WORDS:
                self.assertNotRegex(text, rf"\b{word}\b", name)
            for part in BARRED_PARTS:
                self.assertNotIn(part, text, name)
        for node, place in nodes(ast.Constant):
            if isinstance(node.value, str) and node not in docstrings():
                self.assertNotRegex(node.value, r"\btype\b", place)


if __name__ == "__main__":
    unittest.main()
