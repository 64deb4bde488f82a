"""Where the interface of the document says that its functions, classes and methods stand, and their parameters."""

import importlib
import inspect
import unittest

FUNCTIONS = {
    "programs": {
        "is_name": ["value"],
        "is_integer": ["value", "least", "most"],
    },
    "tables": {
        "identity": ["width"],
        "row_times": ["row", "table"],
        "table_times": ["one", "other"],
        "rank": ["rows"],
        "solve": ["rows", "row"],
        "kernel": ["rows"],
    },
    "compiling": {
        "row_of": ["program", "state"],
        "state_of": ["program", "row"],
        "table_of": ["program", "event"],
        "is_row": ["program", "value"],
    },
}

METHODS = {
    ("programs", "Program"): {
        "__init__": ["modes", "registers", "signs", "rules"],
        "modes": [],
        "registers": [],
        "signs": [],
        "rules": [],
        "rule": ["mode", "sign"],
        "first_state": [],
        "is_state": ["value"],
        "is_event": ["value"],
        "after": ["state", "event"],
        "run": ["state", "events"],
        "trail": ["state", "events"],
        "__eq__": ["other"],
        "__repr__": [],
    },
}


def module(name):
    """A module of the package."""
    return importlib.import_module("twinbegun." + name)


class Interface(unittest.TestCase):
    def test_functions(self):
        for place, functions in FUNCTIONS.items():
            for name, parameters in functions.items():
                function = getattr(module(place), name)
                self.assertTrue(inspect.isfunction(function), name)
                self.assertEqual(function.__module__, "twinbegun." + place)
                self.assertEqual(list(inspect.signature(function).parameters), parameters)

    def test_methods_stand_in_their_own_class(self):
        for (place, name), methods in METHODS.items():
            made = getattr(module(place), name)
            self.assertEqual(made.__module__, "twinbegun." + place)
            for method, parameters in methods.items():
                self.assertIn(method, vars(made))
                self.assertEqual(list(inspect.signature(vars(made)[method]).parameters)[1:], parameters)

    def test_other_members_of_a_program(self):
        members = vars(module("programs").Program)
        self.assertIsInstance(members["width"], property)
        self.assertIsInstance(members["idle"], classmethod)
        self.assertEqual(members["MOST_WIDTH"], 8)
        self.assertTrue(inspect.isgeneratorfunction(members["trail"]))
