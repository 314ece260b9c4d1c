import ast
import importlib
import inspect
import pathlib
import unittest

import dustwithin

FOLDER = pathlib.Path(dustwithin.__file__).parent
# the names that have landed: each with its parameters (set is a builtin's name: here it is value), None for an error
INTERFACE = {
    "errors": {
        "DustError": None, "TooMany": ["most"], "Full": ["most"], "Held": ["name"], "Ring": ["name"],
        "NoText": ["place"], "NoBase": None, "NoWay": None, "NoStretch": None, "NoName": None,
        "NoForm": None, "NoMark": None, "NoRow": None,
    },
    "fractions": {
        "is_fraction": ["thing"], "writings_of": ["base", "fraction"], "fraction_of": ["base", "stem", "ring"],
    },
    "books": {
        "is_book": ["thing"], "live": ["book"], "point_by": ["book", "name", "stem", "ring"],
        "way_to": ["book", "name", "fraction"],
    },
    "sets": {
        "is_set": ["thing"], "set_of": ["book", "name"], "book_of": ["value"], "cell_at": ["value", "digits"],
        "parted": ["one", "other"],
    },
    "points": {
        "is_in": ["value", "fraction"], "least": ["value"], "greatest": ["value"], "under": ["value", "fraction"],
        "over": ["value", "fraction"],
    },
    "joins": {
        "joined": ["one", "other"], "met": ["one", "other"], "turned": ["value"], "stretch": ["base", "low", "high"],
        "put": ["base", "sets"], "is_part": ["one", "other"], "beyond": ["one", "other"],
    },
    "mixes": {
        "mixed": ["sets", "weights", "shift", "divisor"],
        "shown": ["sets", "weights", "shift", "divisor", "fraction"],
    },
    "lengths": {"length": ["value"], "cells_at": ["value", "depth"], "full_at": ["value"]},
    "gaps": {"Gaps": ["value"], "how_many_gaps": ["value"], "longer": ["value", "fraction"]},
    "limits": {
        "limits": ["value"], "kernel": ["value"], "rank": ["value"], "how_many": ["value"],
        "is_single": ["value", "fraction"], "single_of": ["value"],
    },
    "shares": {
        "is_shared": ["thing"], "at_most": ["book", "name", "fraction"], "just_at": ["book", "name", "fraction"],
        "mean": ["book", "name"], "spread": ["book", "name"],
    },
    "house": {"House": ["base"]},
    "texts": {
        "show_fraction": ["fraction"], "show_book": ["book"], "show_set": ["value"], "read_fraction": ["text"],
        "read_book": ["text"], "read_set": ["text"],
    },
    "desk": {"Desk": []},
}
# the methods of each class that have landed
METHODS = {
    "gaps": {"Gaps": {"more": [], "told": []}},
    "house": {
        "House": {
            "tell": ["name", "form"], "drop": ["name"], "value": ["name"], "form": ["name"], "hangers": ["name"],
            "names": [], "groups": [], "why": ["name", "fraction"], "mark": [], "back": ["number"],
        },
    },
    "desk": {"Desk": {"say": ["row"]}},
}


def files():
    return [path for path in FOLDER.rglob("*") if "__pycache__" not in path.parts]


class TestLayout(unittest.TestCase):
    def test_interface_is_defined_where_it_is_listed(self):
        for module, names in INTERFACE.items():
            full = f"dustwithin.{module}"
            for name, parameters in names.items():
                with self.subTest(module=module, name=name):
                    found = getattr(importlib.import_module(full), name)
                    self.assertEqual(found.__module__, full)
                    if parameters is not None:
                        self.assertEqual(list(inspect.signature(found).parameters), parameters)

    def test_methods_are_defined_in_their_classes(self):
        for module, classes in METHODS.items():
            for name, methods in classes.items():
                own = vars(getattr(importlib.import_module(f"dustwithin.{module}"), name))
                for method, parameters in methods.items():
                    with self.subTest(module=module, name=name, method=method):
                        self.assertEqual(list(inspect.signature(own[method]).parameters), ["self"] + parameters)

    def test_the_package_holds_only_files_of_python(self):
        for path in files():
            self.assertTrue(path.is_file() and path.suffix == ".py", path)

    def test_sizes_and_signs(self):
        for path in files():
            text = path.read_text(encoding="utf-8")
            self.assertTrue(all(sign == "\n" or " " <= sign <= "~" for sign in text), path)
            lines = text.split("\n")
            self.assertLess(len(lines), 400, path)
            self.assertLessEqual(max(len(line) for line in lines), 120, path)

    def test_functions_have_at_most_forty_lines(self):
        for path in files():
            for node in ast.walk(ast.parse(path.read_text(encoding="utf-8"))):
                if isinstance(node, ast.FunctionDef):
                    self.assertLessEqual(node.end_lineno - node.lineno + 1, 40, (path, node.name))

    def test_imports_are_of_the_package_or_of_what_the_rules_name(self):
        outside = ("heapq", "math", "itertools", "collections", "__future__")
        for path in files():
            for node in ast.walk(ast.parse(path.read_text(encoding="utf-8"))):
                self.assertNotIsInstance(node, ast.Import, path)
                if isinstance(node, ast.ImportFrom):
                    inside = node.module.startswith("dustwithin.")
                    self.assertTrue(inside or node.module in outside, (path, node.module))


if __name__ == "__main__":
    unittest.main()
