"""The interface: each name in its file with its arguments, each error with its fields."""

import ast
import inspect
import unittest
from importlib import import_module
from pathlib import Path

from weavelines import errors

PACKAGE = Path(__file__).resolve().parent.parent / "weavelines"

FUNCTIONS = {
    "weavings": {
        "run_weaving": ["machine", "hands", "weaving"],
        "standing": ["machine", "hands", "moments"],
        "outcomes": ["machine", "hands"],
        "sure_terms": ["machine", "hands", "hand"],
    },
    "terms": {"term_text": ["machine", "term"]},
    "judges": {
        "keeps": ["machine", "hands", "wishes"],
        "harm": ["machine", "hands", "wishes"],
        "shows_harm": ["machine", "hands", "wishes", "value"],
    },
    "needs": {
        "needed": ["machine", "hands", "wishes"],
        "needed_rows": ["machine", "hands", "wishes"],
        "dealing_told": ["machine", "hands", "wishes"],
    },
    "dealings": {
        "obeys": ["machine", "hands", "wishes", "dealing"],
        "own_cells": ["machine", "dealing", "hand"],
    },
    "searches": {
        "can_do": ["machine", "wishes", "dealing"],
        "dealings": ["machine", "wishes"],
        "can_be_woven": ["machine", "wishes"],
        "woven_rows": ["machine", "wishes"],
        "fewest_lines": ["machine", "wishes"],
        "least_cells": ["machine", "wishes"],
    },
    "counts": {
        "count_weavings": ["lengths"],
        "right_weavings": ["machine", "hands", "wishes"],
        "right_share": ["machine", "hands", "wishes"],
    },
}

FIELDS = {
    "BadMachine": ["part"], "BadHands": ["hand", "index"], "BadWishes": ["hand", "index"],
    "BadLine": ["line", "place"], "TooMany": ["most"],
    "BadTerm": [], "BadWeaving": [], "BadMoments": [], "BadDealing": [], "BadNumber": [], "NoDealing": [],
    "BadStep": [], "BadString": [],
}


def defined(name, kind):
    tree = ast.parse((PACKAGE / (name + ".py")).read_text())
    return [node.name for node in tree.body if isinstance(node, kind)]


class Interface(unittest.TestCase):
    def test_functions(self):
        for name, functions in FUNCTIONS.items():
            module = import_module("weavelines." + name)
            for function, arguments in functions.items():
                with self.subTest(function=function):
                    self.assertIn(function, defined(name, ast.FunctionDef))
                    told = inspect.signature(getattr(module, function)).parameters.values()
                    self.assertEqual([one.name for one in told], arguments)
                    self.assertTrue(all(one.default is one.empty for one in told))

    def test_errors(self):
        names = defined("errors", ast.ClassDef)
        self.assertEqual(sorted(names), sorted(["WeaveError", *FIELDS]))
        self.assertTrue(issubclass(errors.WeaveError, ValueError))
        for name, fields in FIELDS.items():
            with self.subTest(name=name):
                kind = getattr(errors, name)
                self.assertTrue(issubclass(kind, errors.WeaveError))
                told = [f"the {field}" for field in fields]
                error = kind(*told)
                self.assertEqual([getattr(error, field) for field in fields], told)
                self.assertIsInstance(str(error), str)
                if fields:
                    self.assertEqual(list(inspect.signature(kind.__init__).parameters), ["self", *fields])
                    self.assertEqual(vars(kind(**dict(zip(fields, told)))), dict(zip(fields, told)))


if __name__ == "__main__":
    unittest.main()
