"""The interface of the document: its names, their arguments, and where they are defined."""

import ast
import importlib
import inspect
import pathlib
import unittest

from deskcards.desk import Desk
from deskcards.live import Live
from deskcards.plays import play
from deskcards.rows import Row
from deskcards.stories import Story
from deskcards.terms import Terms
from deskcards.tools import Tool

PACKAGE = pathlib.Path(__file__).resolve().parent.parent / "deskcards"

# For each module its functions and classes; for each class its arguments, and those of its methods.
CLASSES = {
    "errors": {
        "CardError": None,
        "InvalidRow": {"__init__": "(word)"},
        "InvalidTool": {"__init__": "(word)"},
        "InvalidTerms": {"__init__": "(word)"},
        "InvalidText": {"__init__": "(at)"},
        "InvalidEvent": {"__init__": "(at)"},
        "InvalidFault": None,
        "InvalidSeen": {"__init__": "(at)"},
        "InvalidCommand": None,
        "Refused": {"__init__": "(at)"},
        "NoRow": {"__init__": "(at)"},
    },
    "rows": {
        "Row": {
            "__init__": "(word, tests=(), deeds=(), opens=True)",
            "read": "(text)",
            "__eq__": "(other)",
            "__str__": "()",
        },
    },
    "tools": {
        "Tool": {
            "__init__": "(window, rows=())",
            "without": "(at)",
            "at_window": "(window)",
            "answer": "(number, marks, card)",
            "read": "(text)",
            "__len__": "()",
            "__getitem__": "(at)",
            "__eq__": "(other)",
            "__str__": "()",
        },
    },
    "terms": {
        "Terms": {
            "__init__": "(skips=None, elder=False, house=False)",
            "lets": "(story)",
            "but": "(**others)",
            "read": "(text)",
            "__eq__": "(other)",
            "__str__": "()",
        },
    },
    "stories": {
        "Story": {
            "__init__": "(events=())",
            "upto": "(many)",
            "more": "(events)",
            "read": "(text)",
            "__len__": "()",
            "__eq__": "(other)",
            "__str__": "()",
        },
    },
    "plays": {"Played": None},
    "live": {
        "Live": {
            "__init__": "(tool)",
            "do": "(event)",
            "several": "(events)",
            "change": "(tool)",
            "undo": "()",
            "within": "(work)",
            "__len__": "()",
        },
    },
    "desk": {"Desk": {"__init__": "()", "say": "(command)"}},
}

FUNCTIONS = {
    "plays": {"play": "(tool, story)"},
    "deciding": {
        "happens": "(tool, terms, fault)",
        "faults": "(tool, terms)",
        "story": "(tool, terms, fault)",
        "fewest": "(tool, terms, fault)",
        "comes": "(tool, terms, at)",
        "standings": "(tool, terms)",
    },
    "bearing": {
        "safe_windows": "(tool, terms, wanted)",
        "most_skips": "(tool, terms, wanted)",
        "needless": "(tool, terms, wanted)",
        "mends": "(tool, terms, wanted)",
    },
    "comparing": {"alike": "(p, q, skips)", "parting": "(p, q, skips)"},
    "telling": {
        "fits": "(tool, terms, seen)",
        "numbers": "(tool, terms, seen)",
        "fitting": "(tools, terms, seen)",
        "surely_tried": "(tool, terms, seen)",
    },
}

# For each class the attributes that its objects have, properties among them.
ATTRIBUTES = {
    "Row": ("word", "tests", "deeds", "opens"),
    "Tool": ("window", "rows", "marks"),
    "Terms": ("skips", "elder", "house"),
    "Story": ("events", "needs", "given"),
    "Played": ("number", "marks", "opened", "done", "met"),
    "Live": ("tool", "story", "played"),
    "Desk": ("live",),
}
PROPERTIES = {"Story": ("given",), "Live": ("tool", "story", "played")}


def arguments(method):
    """The arguments of a method of a class, without the first one."""
    if isinstance(method, classmethod):
        method = method.__func__
    told = list(inspect.signature(method).parameters.values())[1:]
    return "(" + ", ".join(str(each) for each in told) + ")"


class Interface(unittest.TestCase):
    def test_classes_and_their_methods(self):
        for module, classes in CLASSES.items():
            for name, methods in classes.items():
                found = getattr(importlib.import_module(f"deskcards.{module}"), name)
                self.assertTrue(inspect.isclass(found))
                self.assertEqual(found.__module__, f"deskcards.{module}")
                for method, expected in (methods or {}).items():
                    with self.subTest(f"{module}.{name}.{method}"):
                        self.assertIn(method, vars(found))
                        self.assertEqual(arguments(vars(found)[method]), expected)

    def test_functions(self):
        for module, functions in FUNCTIONS.items():
            for name, expected in functions.items():
                with self.subTest(f"{module}.{name}"):
                    found = getattr(importlib.import_module(f"deskcards.{module}"), name)
                    self.assertTrue(inspect.isfunction(found))
                    self.assertEqual(found.__module__, f"deskcards.{module}")
                    self.assertEqual(str(inspect.signature(found)), expected)

    def test_attributes_are_set_from_the_beginning(self):
        for made in (Row("same"), Tool(1), Terms(), Story(), play(Tool(1), Story()), Live(Tool(1)), Desk()):
            name = made.__class__.__name__
            for attribute in ATTRIBUTES[name]:
                with self.subTest(f"{name}.{attribute}"):
                    self.assertTrue(hasattr(made, attribute))
                    own = isinstance(vars(made.__class__).get(attribute), property)
                    self.assertEqual(own, attribute in PROPERTIES.get(name, ()))
                    self.assertEqual(attribute in vars(made), not own)

    def test_read_is_a_class_method(self):
        for module, name in (("rows", "Row"), ("tools", "Tool"), ("terms", "Terms"), ("stories", "Story")):
            found = getattr(importlib.import_module(f"deskcards.{module}"), name)
            self.assertIsInstance(vars(found)["read"], classmethod)

    def test_errors_without_arguments_take_none(self):
        for name in ("CardError", "InvalidFault", "InvalidCommand"):
            getattr(importlib.import_module("deskcards.errors"), name)()

    def test_the_package_contains_only_a_docstring(self):
        tree = ast.parse((PACKAGE / "__init__.py").read_text())
        self.assertEqual(len(tree.body), 1)
        self.assertTrue(ast.get_docstring(tree))


if __name__ == "__main__":
    unittest.main()
