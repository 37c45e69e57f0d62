"""What operators, properties, `__eq__` and `__len__` run: they change and call nothing that they are handed or hold.

The check goes by names: from each such method through all functions, classes and methods of the
package that it may call.
"""

import ast
import builtins
import pathlib
import unittest

FOLDER = pathlib.Path(__file__).resolve().parent.parent / "partlymet"
OTHERS = ("__init__", "__call__", "__iter__", "__enter__", "__exit__", "__setitem__")
CHANGING = set("append clear extend insert pop remove reverse setdefault sort update add discard popitem".split())
MAKING = ("list", "dict", "set", "sorted")


class Package:
    """The functions and classes of all files, and the names of attributes that objects keep."""

    def __init__(self):
        self.functions, self.classes, self.methods, self.attributes = {}, {}, {}, set()
        for path in sorted(FOLDER.glob("*.py")):
            tree = ast.parse(path.read_text())
            for node in tree.body:
                if isinstance(node, ast.FunctionDef):
                    self.functions[node.name] = node
                if isinstance(node, ast.ClassDef):
                    self.classes[node.name] = node
                    for part in node.body:
                        if isinstance(part, ast.FunctionDef):
                            self.methods.setdefault(part.name, []).append(part)
            for node in ast.walk(tree):
                if isinstance(node, ast.Attribute) and isinstance(node.ctx, ast.Store):
                    self.attributes.add(node.attr)

    def begun(self):
        """The methods from which the check goes."""
        for name, nodes in self.methods.items():
            for node in nodes:
                special = name.startswith("__") and name not in OTHERS
                if special or any(ast.unparse(row) == "property" for row in node.decorator_list):
                    yield node

    def init_of(self, name):
        return [node for node in self.classes[name].body if getattr(node, "name", "") == "__init__"]

    def called(self, node):
        """The functions and methods that a call may run, and what is wrong with it, or None."""
        if isinstance(node.func, ast.Name):
            name = node.func.id
            if name in self.classes:
                return self.init_of(name), None
            if name in self.functions:
                return [self.functions[name]], None
            return [], None if hasattr(builtins, name) else f"calls {name}"
        if isinstance(node.func, ast.Attribute):
            name = node.func.attr
            if name == "__init__":
                return [], None
            wrong = f"calls {name}, the name of an attribute" if name in self.attributes else None
            return self.methods.get(name, []), wrong
        return [], "calls what is no name"

    def wrongs(self, function):
        """What is wrong in a function, and what it calls."""
        found, reached = [], []
        made = made_names(function, self.classes)
        for node in ast.walk(function):
            if isinstance(node, ast.Call):
                nodes, wrong = self.called(node)
                reached += nodes
                found += [wrong] if wrong else []
                if isinstance(node.func, ast.Attribute) and node.func.attr in CHANGING:
                    found += [] if ast.unparse(node.func.value) in made else [f"changes {ast.unparse(node.func)}"]
            if isinstance(node, (ast.Attribute, ast.Subscript)) and not isinstance(node.ctx, ast.Load):
                owner = ast.unparse(node.value)
                own = owner == "self" and function.name == "__init__" and isinstance(node, ast.Attribute)
                found += [] if own or owner in made else [f"changes {ast.unparse(node)}"]
            if isinstance(node, (ast.Global, ast.Nonlocal, ast.AugAssign, ast.Yield)):
                found.append(f"has {ast.unparse(node)}")
        return [f"{function.name}: {row}" for row in found], reached


def made_names(function, classes):
    """The local names that are only ever assigned what the function itself makes."""
    made, other = set(), {row.arg for row in function.args.args}
    for node in ast.walk(function):
        if isinstance(node, ast.Assign):
            for target in node.targets:
                for part in ast.walk(target):
                    if isinstance(part, ast.Name) and isinstance(part.ctx, ast.Store):
                        (made if part is target and is_new(node.value, classes) else other).add(part.id)
        if isinstance(node, (ast.For, ast.comprehension)):
            other |= {part.id for part in ast.walk(node.target) if isinstance(part, ast.Name)}
    return made - other


def is_new(value, classes):
    """Whether a value is one that stands there for the first time."""
    if isinstance(value, ast.Call) and isinstance(value.func, ast.Name):
        return value.func.id in MAKING or value.func.id in classes
    return isinstance(value, (ast.List, ast.Dict, ast.ListComp, ast.DictComp))


class Operators(unittest.TestCase):
    def test_what_operators_run(self):
        package = Package()
        left = list(package.begun())
        self.assertGreater(len(left), 12)
        names = {node.name for node in left}
        self.assertLessEqual({"__and__", "__add__", "__mul__", "__getitem__", "first", "now", "facts"}, names)
        seen = []
        while left:
            function = left.pop()
            if function not in seen:
                seen.append(function)
                wrong, reached = package.wrongs(function)
                with self.subTest(function.name):
                    self.assertEqual(wrong, [])
                left += reached
        self.assertLessEqual({"read_pointer", "read_spot", "block_of", "offsets_of", "read_call"}, {row.name for row in seen})

    def test_no_name_is_an_attribute_and_a_method(self):
        package = Package()
        self.assertEqual(sorted(package.attributes & set(package.methods)), [])

    def test_properties_are_no_attributes(self):
        package = Package()
        for node in package.begun():
            self.assertNotIn(node.name, package.attributes)


if __name__ == "__main__":
    unittest.main()
