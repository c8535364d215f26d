"""The interface: its names, arguments, and the files in which they are defined."""

import ast
import importlib
import inspect
import unittest
from pathlib import Path

PACKAGE = Path(__file__).resolve().parent.parent / "racebooks"

FUNCTIONS = {
    "races": {
        "outcomes": ["race"], "is_outcome": ["race", "value"], "is_bet": ["race", "value"],
        "share": ["race", "bet", "outcome"]},
    "offers": {
        "gain": ["race", "offer", "outcome"], "gains": ["race", "offers", "stakes"],
        "mean": ["race", "offer", "chances"]},
    "books": {"sure": ["race", "offers"], "surest": ["race", "offers"]},
    "checking": {
        "gain_holds": ["race", "offers", "stakes"], "chances_hold": ["race", "offers", "chances"],
        "surest_holds": ["race", "offers", "value"]},
    "further": {
        "top_odds": ["race", "offers", "bet"], "top_holds": ["race", "offers", "bet", "odds", "proof"],
        "low_odds": ["race", "offers", "bet"], "low_holds": ["race", "offers", "bet", "odds", "proof"]},
    "told": {"fit": ["race", "quotes"], "fit_holds": ["race", "quotes", "value"]},
    "pools": {
        "payments": ["pool", "stakes"], "comes": ["pool", "row"], "least_stakes": ["pool", "row"],
        "spread": ["pool", "row"], "pool_gain": ["pool", "stakes", "own"]},
    "texts": {"printed": ["value"], "parse": ["text"]}}
CLASSES = {
    "errors": {
        "BookError": None, "BadValue": ["at"], "BadOffer": ["at"], "BadSyntax": ["at"], "TooMany": ["word"]},
    "races": {"Race": ["runners", "ties", "absent", "cuts"]},
    "console": {"Console": []}}
# Of each, the arguments that a caller passes to a method of an object, or of the class for replayed.
METHODS = {"run": ["command"], "log": [], "replayed": ["log"]}


def defined(module, kind):
    tree = ast.parse((PACKAGE / f"{module}.py").read_text())
    return [node.name for node in tree.body if isinstance(node, kind)]


class Interface(unittest.TestCase):
    def test_package_is_a_folder_of_its_own(self):
        self.assertTrue((PACKAGE / "__init__.py").is_file())

    def test_functions(self):
        for module, names in FUNCTIONS.items():
            for name, arguments in names.items():
                self.assertIn(name, defined(module, ast.FunctionDef))
                function = getattr(importlib.import_module(f"racebooks.{module}"), name)
                self.assertEqual(list(inspect.signature(function).parameters), arguments)

    def test_classes(self):
        for module, names in CLASSES.items():
            for name, arguments in names.items():
                self.assertIn(name, defined(module, ast.ClassDef))
                made = getattr(importlib.import_module(f"racebooks.{module}"), name)
                if arguments is not None:
                    self.assertEqual(list(inspect.signature(made).parameters), arguments)

    def test_methods_of_console(self):
        made = importlib.import_module("racebooks.console").Console
        for name, arguments in METHODS.items():
            self.assertIn(name, vars(made))
            asked = made if name == "replayed" else made()
            self.assertEqual(list(inspect.signature(getattr(asked, name)).parameters), arguments)
        self.assertIsInstance(vars(made)["replayed"], (classmethod, staticmethod))

    def test_properties_of_race(self):
        made = importlib.import_module("racebooks.races").Race
        for name in CLASSES["races"]["Race"]:
            self.assertIn(name, vars(made))


if __name__ == "__main__":
    unittest.main()
