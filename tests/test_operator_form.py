"""The form of the code: what operators, properties and their like run (LANGUAGE.md, L5 Operators and L28).

Such a method, and every function that it comes to, changes nothing but what it created, calls nothing that it is
handed or holds, and goes through no generator. A call is followed by the name that it uses.
"""

import ast
import unittest

from tests.test_form import BUILTINS, definitions, files, parsed

FREE = ("__init__", "__call__", "__iter__", "__enter__", "__exit__")
CHANGING = ("append", "clear", "extend", "insert", "pop", "remove", "reverse", "setdefault", "sort", "update", "add",
            "discard")
MAKERS = ("list", "dict", "set", "sorted")
ERRORS = ("TypeError", "ValueError", "KeyError")


def functions():
    """Return a dict of all functions and methods of the package, under their file, class and name."""
    found = {}
    for path in files():
        for name, node in definitions(parsed(path)).items():
            if isinstance(node, ast.FunctionDef):
                home, _, own = name.partition(".") if "." in name else ("", "", name)
                found[(path.stem, home, own)] = node
    return found


def homes():
    """Return for each file a dict of the names at its module level, each with the file that defines it."""
    found = {}
    for path in files():
        names = {}
        for node in parsed(path).body:
            if isinstance(node, (ast.FunctionDef, ast.ClassDef)):
                names[node.name] = path.stem
            if isinstance(node, ast.ImportFrom):
                names.update({name.name: node.module.split(".")[1] for name in node.names})
        found[path.stem] = names
    return found


def is_root(key, node):
    """Return whether the rule holds for a function from the start."""
    operator = key[2].startswith("__") and key[2] not in FREE
    return operator or "property" in [ast.unparse(mark) for mark in node.decorator_list]


def is_new(value):
    """Return whether the expression makes a list, dict or set of its own."""
    if isinstance(value, (ast.List, ast.Dict, ast.ListComp, ast.DictComp)):
        return True
    if isinstance(value, ast.BinOp):
        return is_new(value.left) or is_new(value.right)
    return isinstance(value, ast.Call) and isinstance(value.func, ast.Name) and value.func.id in MAKERS


def created_names(function):
    """Return the local names that are assigned nothing but lists, dicts and sets which the function makes."""
    told = {}
    for node in ast.walk(function):
        if isinstance(node, ast.Assign):
            for target in node.targets:
                if isinstance(target, ast.Name):
                    told.setdefault(target.id, []).append(is_new(node.value))
    return {name for name, new in told.items() if all(new)} - {arg.arg for arg in function.args.args}


class Walk:
    """What the operators come to, and what is wrong there."""

    def __init__(self, all_functions, all_homes):
        self.functions = all_functions
        self.homes = all_homes
        self.faults = []
        self.reached = []
        self.waiting = [key for key, node in all_functions.items() if is_root(key, node)]

    def run(self):
        while self.waiting:
            key = self.waiting.pop()
            if key not in self.reached:
                self.reached.append(key)
                self.look_at(key)

    def fault(self, key, node, why):
        self.faults.append((key, node.lineno, why))

    def look_at(self, key):
        function = self.functions[key]
        created = created_names(function)
        for node in ast.walk(function):
            if isinstance(node, (ast.Yield, ast.YieldFrom)):
                self.fault(key, node, "yields")
            if isinstance(node, ast.Call):
                self.look_at_call(key, node, created)
            if isinstance(node, (ast.Attribute, ast.Subscript)) and not isinstance(node.ctx, ast.Load):
                self.look_at_target(key, node, created)
            if isinstance(node, ast.AugAssign):
                if not isinstance(node.target, ast.Name) or not isinstance(node.value, ast.Constant):
                    self.fault(key, node, "adds more than a number to a local name")

    def look_at_target(self, key, node, created):
        name = node.value.id if isinstance(node.value, ast.Name) else ""
        fresh = isinstance(node, ast.Subscript) and name in created
        if not fresh and not (key[2] == "__init__" and isinstance(node, ast.Attribute) and name == "self"):
            self.fault(key, node, "changes " + ast.unparse(node))

    def look_at_call(self, key, node, created):
        if isinstance(node.func, ast.Attribute):
            name = node.func.attr
            if name in CHANGING and not (isinstance(node.func.value, ast.Name) and node.func.value.id in created):
                self.fault(key, node, "changes " + ast.unparse(node.func.value))
            self.waiting.extend(other for other in self.functions if other[1] and other[2] == name)
            return
        name = node.func.id if isinstance(node.func, ast.Name) else ""
        home = self.homes[key[0]].get(name)
        if home is not None:
            self.waiting.extend(other for other in self.functions if other[0] == home
                                and (other[1:] == ("", name) or other[1:] == (name, "__init__")))
        elif name not in BUILTINS and name not in ERRORS or name in ("iter", "next"):
            self.fault(key, node, "calls " + ast.unparse(node.func))


class TestOperators(unittest.TestCase):
    def test_what_operators_run(self):
        walk = Walk(functions(), homes())
        walk.run()
        self.assertEqual(walk.faults, [])
        for key in [("choosers", "Chooser", "__mul__"), ("choosers", "", "row_behind"), ("sizes", "", "all_contexts"),
                    ("choosers", "Chooser", "__init__"), ("games", "Game", "plans"), ("aims", "", "wrong_rows"),
                    ("rows", "Row", "__getitem__"), ("queries", "Query", "__xor__"), ("queries", "", "wrong_query"),
                    ("tracing", "SeenRow", "__getitem__"), ("tracing", "PlaceAsked", "__init__"),
                    ("desk", "Desk", "__contains__"), ("desk", "Desk", "names"), ("desk", "Desk", "limit")]:
            self.assertIn(key, walk.reached)

    def test_the_walk_sees_faults(self):
        text = ("def steps(rows):\n    yield 1\n"
                "def through(rows):\n    return list(steps(rows))\n"
                "def held(call):\n    return call(1)\n"
                "def adding(rows):\n    rows.append(1)\n"
                "def setting(rows):\n    rows[0] = 1\n"
                "def fresh(n):\n    rows = [0]\n    rows.append(n)\n    rows[0] = 2\n    return rows\n")
        found = {("some", "", node.name): node for node in ast.parse(text).body}
        names = {name: "some" for _, _, name in found}
        for name, many in [("through", 1), ("held", 1), ("adding", 1), ("setting", 1), ("fresh", 0)]:
            walk = Walk(found, {"some": names})
            walk.waiting.append(("some", "", name))
            walk.run()
            self.assertEqual(len(walk.faults), many, name)
