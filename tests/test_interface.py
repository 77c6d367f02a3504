"""The modules that have landed, under their names, with the names and arguments of the interface."""

import importlib
import inspect
import unittest

FUNCTIONS = {
    "pairlings.pairings": {
        "looked": ["pairing"],
        "lone": ["pairing"],
        "crossings": ["pairing"],
        "nestings": ["pairing"],
    },
    "pairlings.pieces": {
        "tangles": ["pairing"],
        "longest_nest": ["pairing"],
        "layers": ["pairing"],
    },
    "pairlings.walks": {
        "walk_of": ["pairing"],
        "pairing_of": ["walk"],
        "turned": ["pairing"],
    },
    "pairlings.counting": {
        "how_many": ["points"],
        "how_many_with": ["points", "pairs", "crossings", "nestings"],
        "told": ["points", "number"],
        "number_of": ["pairing"],
    },
    "pairlings.notes": {
        "shown": ["pairing"],
        "read": ["text"],
    },
}
CLASSES = {
    "pairlings.errors": ["PairError", "NoPairing", "NoWalk", "NoNumber", "TooMany", "BadNote"],
}


class InterfaceTest(unittest.TestCase):
    def test_functions_and_their_arguments(self):
        for module, functions in FUNCTIONS.items():
            for name, arguments in functions.items():
                with self.subTest(f"{module}.{name}"):
                    function = getattr(importlib.import_module(module), name)
                    self.assertTrue(inspect.isfunction(function))
                    parameters = inspect.signature(function).parameters
                    self.assertEqual(list(parameters), arguments)
                    for parameter in parameters.values():
                        self.assertIs(parameter.default, inspect.Parameter.empty)
                        self.assertEqual(parameter.kind, inspect.Parameter.POSITIONAL_OR_KEYWORD)

    def test_classes(self):
        for module, classes in CLASSES.items():
            for name in classes:
                with self.subTest(f"{module}.{name}"):
                    self.assertTrue(inspect.isclass(getattr(importlib.import_module(module), name)))


if __name__ == "__main__":
    unittest.main()
