"""Where the interface of the document says that its functions, classes and methods stand, and their parameters."""

import importlib
import inspect
import unittest

FUNCTIONS = {
    "programs": {
        "is_name": ["value"],
        "is_integer": ["value", "least", "most"],
    },
    "tables": {
        "identity": ["width"],
        "row_times": ["row", "table"],
        "table_times": ["one", "other"],
        "rank": ["rows"],
        "solve": ["rows", "row"],
        "kernel": ["rows"],
    },
    "compiling": {
        "row_of": ["program", "state"],
        "state_of": ["program", "row"],
        "table_of": ["program", "event"],
        "is_row": ["program", "value"],
    },
    "logs": {
        "first_wrong": ["program", "events", "lots"],
        "columns": ["log"],
    },
    "ways": {
        "way": ["log", "first", "last"],
        "opened": ["parts"],
        "most_opened": ["program"],
    },
    "papers": {
        "follow": ["log", "first", "last", "row"],
        "ask": ["log", "first", "last", "state"],
        "whole": ["log", "first", "last"],
    },
    "forgetting": {
        "rank_of": ["log", "first", "last"],
        "falls": ["log", "first", "last"],
        "meeting": ["log", "first", "one", "other"],
        "needed_from": ["log", "place"],
    },
    "starts": {
        "starts": ["log", "first", "last", "end", "mode"],
    },
    "edits": {
        "plan": ["log", "first", "last", "edits"],
        "edited": ["log", "first", "last", "edits"],
        "outcome": ["log", "first", "last", "state", "edits"],
        "slope": ["log", "first", "last", "state", "place"],
        "amount_for": ["log", "first", "last", "state", "place", "target", "value"],
    },
    "comparing": {
        "compare": ["one", "other"],
        "are_alike": ["one", "other"],
        "same_effect": ["log", "first", "last", "other", "from_place", "to_place"],
    },
    "texts": {
        "program_text": ["program"],
        "events_text": ["events"],
        "read_program": ["text"],
        "read_events": ["text"],
    },
}

METHODS = {
    ("programs", "Program"): {
        "__init__": ["modes", "registers", "signs", "rules"],
        "modes": [],
        "registers": [],
        "signs": [],
        "rules": [],
        "rule": ["mode", "sign"],
        "first_state": [],
        "is_state": ["value"],
        "is_event": ["value"],
        "after": ["state", "event"],
        "run": ["state", "events"],
        "trail": ["state", "events"],
        "__eq__": ["other"],
        "__repr__": [],
    },
    ("logs", "KeptLog"): {
        "__init__": ["program", "events"],
        "put": ["events"],
        "cut": ["place"],
        "events": [],
        "height": ["place"],
        "cuts": ["level"],
        "kept": ["place", "level"],
        "next_cut": ["place", "level"],
        "last_cut": ["place", "level"],
        "branch": [],
        "with_events": ["events"],
        "__eq__": ["other"],
        "__repr__": [],
        "__len__": [],
    },
    ("papers", "Paper"): {
        "__init__": ["first", "last", "start", "end", "parts"],
        "parts": [],
        "holds": ["log"],
        "__repr__": [],
    },
    ("starts", "Starts"): {
        "__init__": ["mode", "numerators", "denominator", "basis"],
        "basis": [],
        "has": ["values"],
        "__len__": [],
        "__repr__": [],
    },
    ("probes", "Probe"): {
        "__init__": ["program", "start", "look"],
        "look": [],
        "value_at": ["state"],
        "value": ["events"],
        "__call__": ["events"],
    },
    ("comparing", "Comparison"): {
        "__init__": ["one", "other"],
        "told": [],
        "holds": [],
        "__bool__": [],
        "__repr__": [],
    },
    ("comparing", "Alike"): {
        "__init__": ["one", "other", "logs"],
        "logs": [],
        "told": [],
        "holds": [],
        "__bool__": [],
    },
    ("comparing", "Apart"): {
        "__init__": ["one", "other", "events"],
        "events": [],
        "told": [],
        "holds": [],
    },
    ("stores", "Store"): {
        "__init__": ["program", "size"],
        "put": ["events"],
        "sync": [],
        "pending": [],
        "pages": [],
        "crash": ["kept"],
        "log": [],
        "events": [],
        "twin": [],
        "__len__": [],
        "__repr__": [],
    },
    ("workspaces", "Workspace"): {
        "__init__": ["program", "limit"],
        "set_limit": ["limit"],
        "apply": ["commands"],
        "undo": [],
        "redo": [],
        "history": [],
        "names": [],
        "log_of": ["name"],
        "twin": [],
        "__eq__": ["other"],
        "__len__": [],
        "__repr__": [],
    },
    ("desk", "Desk"): {
        "__init__": ["workspace"],
        "say": ["line"],
        "__call__": ["line"],
        "workspace": [],
        "lines": [],
        "__len__": [],
    },
}

PROPERTIES = {
    ("programs", "Program"): ["width"],
    ("logs", "KeptLog"): ["program", "worked"],
    ("probes", "Probe"): ["program", "start"],
    ("comparing", "Comparison"): ["one", "other"],
    ("stores", "Store"): ["size", "restarts"],
    ("workspaces", "Workspace"): ["program", "limit", "busy"],
}


def module(name):
    """A module of the package."""
    return importlib.import_module("twinbegun." + name)


class Interface(unittest.TestCase):
    def test_functions(self):
        for place, functions in FUNCTIONS.items():
            for name, parameters in functions.items():
                function = getattr(module(place), name)
                self.assertTrue(inspect.isfunction(function), name)
                self.assertEqual(function.__module__, "twinbegun." + place)
                self.assertEqual(list(inspect.signature(function).parameters), parameters)

    def test_methods_stand_in_their_own_class(self):
        for (place, name), methods in METHODS.items():
            made = getattr(module(place), name)
            self.assertEqual(made.__module__, "twinbegun." + place)
            for method, parameters in methods.items():
                self.assertIn(method, vars(made))
                self.assertEqual(list(inspect.signature(vars(made)[method]).parameters)[1:], parameters)

    def test_properties(self):
        for (place, name), properties in PROPERTIES.items():
            for word in properties:
                self.assertIsInstance(vars(getattr(module(place), name))[word], property)

    def test_other_members_of_a_program(self):
        members = vars(module("programs").Program)
        self.assertIsInstance(members["idle"], classmethod)
        self.assertEqual(members["MOST_WIDTH"], 8)
        self.assertTrue(inspect.isgeneratorfunction(members["trail"]))

    def test_other_members_of_a_log(self):
        members = vars(module("logs").KeptLog)
        self.assertIn("__getitem__", members)
        self.assertEqual(inspect.signature(members["put"]).parameters["events"].kind, inspect.Parameter.VAR_POSITIONAL)
        self.assertEqual(module("logs").MOST_EVENTS, 200)

    def test_what_is_passed_by_name_only(self):
        for call, name, default in [
            (module("forgetting").falls, "last", None),
            (module("stores").Store, "size", 4),
            (module("workspaces").Workspace, "limit", 8),
        ]:
            parameter = inspect.signature(call).parameters[name]
            self.assertEqual((parameter.kind, parameter.default), (inspect.Parameter.KEYWORD_ONLY, default))

    def test_any_number_of_arguments(self):
        for call, name in [
            (module("stores").Store.put, "events"),
            (module("stores").Store.crash, "kept"),
            (module("workspaces").Workspace.apply, "commands"),
        ]:
            self.assertEqual(inspect.signature(call).parameters[name].kind, inspect.Parameter.VAR_POSITIONAL)

    def test_other_members_of_a_workspace(self):
        made = module("workspaces").Workspace
        self.assertIn("__contains__", vars(made))
        self.assertEqual(vars(made)["MOST"], 12)
        self.assertIsNotNone(vars(made)["limit"].fset)

    def test_start_is_a_property_of_probes_alone(self):
        start = vars(module("probes").Probe)["start"]
        self.assertIsInstance(start, property)
        self.assertIsNotNone(start.fset)
        self.assertNotIn("start", vars(module("papers").Paper))

    def test_attributes_are_there_from_the_beginning(self):
        paper = module("papers").Paper(1, 2, 3, 4, 5)
        for name in ("first", "last", "start", "end"):
            self.assertIn(name, vars(paper))
        found = module("starts").Starts("on", (), 1, [])
        for name in ("mode", "numerators", "denominator"):
            self.assertIn(name, vars(found))

    def test_bases(self):
        comparing = module("comparing")
        for name in ("Alike", "Apart"):
            self.assertEqual(getattr(comparing, name).__bases__, (comparing.Comparison,))
