"""The interface of the document: its names, their arguments, and where they are defined."""

import ast
import importlib
import inspect
import pathlib
import unittest

PACKAGE = pathlib.Path(__file__).resolve().parent.parent / "deskcards"

# For each module its functions and classes; for each class its arguments, and those of its methods.
CLASSES = {
    "errors": {
        "CardError": None,
        "InvalidRow": {"__init__": "(word)"},
        "InvalidTool": {"__init__": "(word)"},
        "InvalidTerms": {"__init__": "(word)"},
        "InvalidText": {"__init__": "(at)"},
        "InvalidEvent": {"__init__": "(at)"},
        "InvalidFault": None,
        "InvalidSeen": {"__init__": "(at)"},
        "InvalidCommand": None,
        "Refused": {"__init__": "(at)"},
        "NoRow": {"__init__": "(at)"},
    },
    "rows": {
        "Row": {
            "__init__": "(word, tests=(), deeds=(), opens=True)",
            "read": "(text)",
            "__eq__": "(other)",
            "__str__": "()",
        },
    },
    "tools": {
        "Tool": {
            "__init__": "(window, rows=())",
            "without": "(at)",
            "at_window": "(window)",
            "answer": "(number, marks, card)",
            "read": "(text)",
            "__len__": "()",
            "__getitem__": "(at)",
            "__eq__": "(other)",
            "__str__": "()",
        },
    },
    "terms": {
        "Terms": {
            "__init__": "(skips=None, elder=False, house=False)",
            "lets": "(story)",
            "but": "(**others)",
            "read": "(text)",
            "__eq__": "(other)",
            "__str__": "()",
        },
    },
    "stories": {
        "Story": {
            "__init__": "(events=())",
            "upto": "(many)",
            "more": "(events)",
            "read": "(text)",
            "__len__": "()",
            "__eq__": "(other)",
            "__str__": "()",
        },
    },
    "plays": {"Played": None},
}

FUNCTIONS = {
    "plays": {"play": "(tool, story)"},
    "deciding": {
        "happens": "(tool, terms, fault)",
        "faults": "(tool, terms)",
        "story": "(tool, terms, fault)",
        "fewest": "(tool, terms, fault)",
        "comes": "(tool, terms, at)",
        "standings": "(tool, terms)",
    },
    "bearing": {
        "safe_windows": "(tool, terms, wanted)",
        "most_skips": "(tool, terms, wanted)",
        "needless": "(tool, terms, wanted)",
        "mends": "(tool, terms, wanted)",
    },
}


def arguments(method):
    """The arguments of a method of a class, without the first one."""
    if isinstance(method, classmethod):
        method = method.__func__
    told = list(inspect.signature(method).parameters.values())[1:]
    return "(" + ", ".join(str(each) for each in told) + ")"


class Interface(unittest.TestCase):
    def test_classes_and_their_methods(self):
        for module, classes in CLASSES.items():
            for name, methods in classes.items():
                found = getattr(importlib.import_module(f"deskcards.{module}"), name)
                self.assertTrue(inspect.isclass(found))
                self.assertEqual(found.__module__, f"deskcards.{module}")
                for method, expected in (methods or {}).items():
                    with self.subTest(f"{module}.{name}.{method}"):
                        self.assertIn(method, vars(found))
                        self.assertEqual(arguments(vars(found)[method]), expected)

    def test_functions(self):
        for module, functions in FUNCTIONS.items():
            for name, expected in functions.items():
                with self.subTest(f"{module}.{name}"):
                    found = getattr(importlib.import_module(f"deskcards.{module}"), name)
                    self.assertTrue(inspect.isfunction(found))
                    self.assertEqual(found.__module__, f"deskcards.{module}")
                    self.assertEqual(str(inspect.signature(found)), expected)

    def test_properties(self):
        self.assertIsInstance(vars(importlib.import_module("deskcards.stories").Story)["given"], property)

    def test_read_is_a_class_method(self):
        for module, name in (("rows", "Row"), ("tools", "Tool"), ("terms", "Terms"), ("stories", "Story")):
            found = getattr(importlib.import_module(f"deskcards.{module}"), name)
            self.assertIsInstance(vars(found)["read"], classmethod)

    def test_errors_without_arguments_take_none(self):
        for name in ("CardError", "InvalidFault", "InvalidCommand"):
            getattr(importlib.import_module("deskcards.errors"), name)()

    def test_the_package_contains_only_a_docstring(self):
        tree = ast.parse((PACKAGE / "__init__.py").read_text())
        self.assertEqual(len(tree.body), 1)
        self.assertTrue(ast.get_docstring(tree))


if __name__ == "__main__":
    unittest.main()
