"""The source files of the package and their syntax trees, for the tests of the form of the code."""

import ast
import functools
import pathlib

PACKAGE = pathlib.Path(__file__).resolve().parent.parent / "anytempo"
LIBRARY = {
    "heapq": {"heappush", "heappop", "heapify", "heapreplace", "heappushpop"},
    "math": {"gcd", "lcm", "isqrt", "comb", "perm", "factorial"},
    "itertools": {"product", "combinations", "permutations", "chain", "accumulate", "pairwise", "islice",
                  "zip_longest"},
    "collections": {"defaultdict"},
}
SOURCES = {path.name: path.read_text(encoding="utf-8") for path in sorted(PACKAGE.glob("*.py"))}
TREES = {name: ast.parse(text) for name, text in SOURCES.items()}
# For each node the one that contains it; nodes are compared by identity.
PARENTS = {below: node for tree in TREES.values() for node in ast.walk(tree) for below in ast.iter_child_nodes(node)}


def nodes(*kinds):
    """All nodes of these kinds, with the place of each one for the messages."""
    return [(node, f"{name}:{getattr(node, 'lineno', 0)}")
            for name, tree in TREES.items() for node in ast.walk(tree) if isinstance(node, kinds)]


def within(tree, *kinds):
    """The nodes of these kinds in a tree."""
    return [node for node in ast.walk(tree) if isinstance(node, kinds)]


def defined(tree):
    """The names that a file itself binds at module level, one for each binding."""
    names = [node.name for node in tree.body if isinstance(node, (ast.FunctionDef, ast.ClassDef))]
    return names + [node.targets[0].id for node in tree.body if isinstance(node, ast.Assign)]


def imported(tree):
    return [item.name for node in within(tree, ast.ImportFrom) for item in node.names]


@functools.cache
def classes():
    """The names of all classes of the package."""
    return {node.name for node, _ in nodes(ast.ClassDef)}


@functools.cache
def own_methods():
    """The names of all functions and methods of the package."""
    return {node.name for node, _ in nodes(ast.FunctionDef)}


@functools.cache
def docstrings():
    """The nodes of all docstrings."""
    owners = [node for node, _ in nodes(ast.Module, ast.ClassDef, ast.FunctionDef)]
    return {owner.body[0].value for owner in owners if owner.body and isinstance(owner.body[0], ast.Expr)}


def called(node):
    """The name of the builtin or function that a call calls by its bare name, or None."""
    return node.func.id if isinstance(node, ast.Call) and isinstance(node.func, ast.Name) else None


def bound_in(function):
    """The names of the parameters, variables and functions of a function."""
    names = [item.arg for item in within(function.args, ast.arg)]
    names = names + [node.id for node in within(function, ast.Name) if isinstance(node.ctx, ast.Store)]
    return names + [node.name for node in within(function, ast.FunctionDef) if node is not function]
