"""Promise 2 over the whole package: parameters by position and by name in any order, tuples as lists, equal calls."""

from itertools import permutations

from twinbegun import (
    comparing, compiling, desk, edits, errors, forgetting, logs, papers, probes, programs, starts, stores, tables, texts,
    ways, workspaces,
)
from tests.checks import FIELDS, Checks, cash
from tests.test_interface import FUNCTIONS

PROGRAM = cash()
STATE = ("on", (5,))
EVENTS = [("pay", 3), ("reset", 0), ("pay", 2)]
ROWS = [(1, 2), (2, 4), (0, 1)]
TABLE = ((1, 3), (0, 1))
RULES = PROGRAM.rules()
LOOK = [("on", (("cash", 1),))]
TEXT = texts.program_text(PROGRAM)


def log():
    """The log of the examples, afresh for each call."""
    return logs.KeptLog(PROGRAM, EVENTS)


def probe():
    """A probe, afresh for each call."""
    return probes.Probe(PROGRAM, ("on", (0,)), LOOK)


# For each function its arguments in order; what is callable is called for each call of the function.
CALLS = {
    ("programs", "is_name"): ["abc"],
    ("programs", "is_integer"): [5, 1, 7],
    ("tables", "identity"): [3],
    ("tables", "row_times"): [(1, 5), TABLE],
    ("tables", "table_times"): [TABLE, ((1, 0), (0, 0))],
    ("tables", "rank"): [ROWS],
    ("tables", "solve"): [ROWS, (3, 4)],
    ("tables", "kernel"): [ROWS],
    ("compiling", "row_of"): [PROGRAM, STATE],
    ("compiling", "state_of"): [PROGRAM, (1, 5)],
    ("compiling", "table_of"): [PROGRAM, ("pay", 3)],
    ("compiling", "is_row"): [PROGRAM, (1, 5)],
    ("logs", "first_wrong"): [PROGRAM, EVENTS, [[]]],
    ("logs", "columns"): [log],
    ("ways", "way"): [log, 1, 3],
    ("ways", "opened"): [[("step", 2, 0), ("twin", 1, 3, 1)]],
    ("ways", "most_opened"): [PROGRAM],
    ("papers", "follow"): [log, 1, 3, (2, 7)],
    ("papers", "ask"): [log, 1, 3, STATE],
    ("papers", "whole"): [log, 1, 3],
    ("forgetting", "rank_of"): [log, 1, 3],
    ("forgetting", "falls"): [log, 0],
    ("forgetting", "meeting"): [log, 0, STATE, ("on", (7,))],
    ("forgetting", "needed_from"): [log, 3],
    ("starts", "starts"): [log, 1, 3, ("on", (2,)), "on"],
    ("edits", "plan"): [log, 0, 3, [("strike", 1)]],
    ("edits", "edited"): [log, 0, 3, [("strike", 1)]],
    ("edits", "outcome"): [log, 0, 3, STATE, [("strike", 1)]],
    ("edits", "slope"): [log, 0, 3, STATE, 2],
    ("edits", "amount_for"): [log, 0, 3, STATE, 2, "cash", 7],
    ("comparing", "compare"): [probe, lambda: probes.Probe(PROGRAM, STATE, LOOK)],
    ("comparing", "are_alike"): [probe, lambda: probes.Probe(PROGRAM, STATE, LOOK)],
    ("comparing", "same_effect"): [log, 0, 2, log, 1, 3],
    ("texts", "program_text"): [PROGRAM],
    ("texts", "events_text"): [EVENTS],
    ("texts", "read_program"): [TEXT],
    ("texts", "read_events"): ["pay 3\nreset 0\n"],
}
MADE = {
    ("programs", "Program"): {"modes": ["on"], "registers": ["cash"], "signs": ["pay", "reset"], "rules": RULES},
    ("logs", "KeptLog"): {"program": PROGRAM, "events": EVENTS},
    ("papers", "Paper"): {"first": 0, "last": 1, "start": (1, 5), "end": (1, 8), "parts": [("step", 1, 0)]},
    ("starts", "Starts"): {"mode": "on", "numerators": (3,), "denominator": 2, "basis": [(4,)]},
    ("probes", "Probe"): {"program": PROGRAM, "start": STATE, "look": LOOK},
    ("comparing", "Comparison"): {"one": probe, "other": probe},
    ("comparing", "Alike"): {"one": probe, "other": probe, "logs": [[], [("pay", 1)]]},
    ("comparing", "Apart"): {"one": probe, "other": probe, "events": [("pay", 1)]},
    ("stores", "Store"): {"program": PROGRAM, "size": 3},
    ("workspaces", "Workspace"): {"program": PROGRAM, "limit": 5},
    ("desk", "Desk"): {"workspace": lambda: workspaces.Workspace(PROGRAM)},
}
MODULES = {
    "comparing": comparing, "compiling": compiling, "desk": desk, "edits": edits, "errors": errors,
    "forgetting": forgetting, "logs": logs, "papers": papers, "probes": probes, "programs": programs, "starts": starts,
    "stores": stores, "tables": tables, "texts": texts, "ways": ways, "workspaces": workspaces,
}
QUESTIONS = {
    "Program": ["modes", "registers", "signs", "rules", "first_state", "__repr__"],
    "KeptLog": ["events", "__len__", "__repr__"],
    "Paper": ["parts", "__repr__"],
    "Starts": ["basis", "__len__", "__repr__"],
    "Probe": ["look"],
    "Comparison": ["told", "holds", "__bool__", "__repr__"],
    "Alike": ["told", "holds", "logs", "__bool__", "__repr__"],
    "Apart": ["told", "holds", "events", "__bool__", "__repr__"],
    "Store": ["pending", "pages", "events", "__len__", "__repr__"],
    "Workspace": ["history", "names", "__len__", "__repr__"],
    "Desk": ["lines", "__len__"],
}
ATTRIBUTES = {
    "KeptLog": ["worked"], "Program": ["width"], "Paper": ["first", "last", "start", "end"], "Probe": ["start"],
    "Starts": ["mode", "numerators", "denominator"], "Store": ["size", "restarts"], "Workspace": ["limit", "busy"],
}


def fresh(value):
    """The value, or what its function makes."""
    return value() if callable(value) else value


def told(value):
    """What can be compared of a result."""
    name = type(value).__name__
    if name not in QUESTIONS:
        return value
    return (name, [getattr(value, word)() for word in QUESTIONS[name]],
            [getattr(value, word) for word in ATTRIBUTES.get(name, [])])


def turned(value):
    """A tuple in the place of a list, and of the lists in it."""
    return tuple(turned(item) for item in value) if type(value) is list else value


class Calls(Checks):
    def test_each_function_is_here(self):
        wanted = [(place, name) for place, functions in FUNCTIONS.items() for name in functions]
        self.assertEqual(sorted(CALLS), sorted(wanted))

    def test_functions(self):
        for (place, name), values in CALLS.items():
            function = getattr(MODULES[place], name)
            words = FUNCTIONS[place][name][:len(values)]
            wanted = told(function(*[fresh(value) for value in values]))
            self.assert_same(told(function(*[fresh(value) for value in values])), wanted)
            pairs = list(zip(words, values))
            for some in list(permutations(pairs))[:120]:
                self.assert_same(told(function(**{word: fresh(value) for word, value in some})), wanted)
            for many in range(len(values)):
                args = [fresh(value) for value in values[:many]]
                named = {word: fresh(value) for word, value in reversed(pairs[many:])}
                self.assert_same(told(function(*args, **named)), wanted)

    def test_tuples_in_the_place_of_lists(self):
        for (place, name), values in CALLS.items():
            # There a tuple is no list, as the document says.
            if name != "first_wrong":
                function = getattr(MODULES[place], name)
                wanted = told(function(*[fresh(value) for value in values]))
                self.assert_same(told(function(*[turned(fresh(value)) for value in values])), wanted)

    def test_arguments_are_not_changed(self):
        for (place, name), values in CALLS.items():
            args = [fresh(value) for value in values]
            before = [told(value) for value in args]
            getattr(MODULES[place], name)(*args)
            self.assert_same([told(value) for value in args], before)

    def test_constructors(self):
        for (place, name), values in MADE.items():
            made = getattr(MODULES[place], name)
            wanted = told(made(**{word: fresh(value) for word, value in values.items()}))
            for some in permutations(list(values.items())):
                self.assert_same(told(made(**{word: fresh(value) for word, value in some})), wanted)
            if name not in ("Store", "Workspace"):
                self.assert_same(told(made(*[fresh(value) for value in values.values()])), wanted)
            self.assert_same(told(made(**{word: turned(fresh(value)) for word, value in values.items()})), wanted)

    def test_constructors_with_parameters_left_out(self):
        self.assert_same(told(programs.Program(signs=["a"], registers=[], modes=["m"])),
                         told(programs.Program(["m"], [], ["a"], [])))
        self.assert_same(told(logs.KeptLog(program=PROGRAM)), told(logs.KeptLog(PROGRAM, [])))
        self.assert_same(told(stores.Store(program=PROGRAM)), told(stores.Store(PROGRAM, size=4)))
        self.assert_same(told(workspaces.Workspace(program=PROGRAM)), told(workspaces.Workspace(PROGRAM, limit=8)))

    def test_errors(self):
        for name, fields in FIELDS.items():
            for some in permutations(list(enumerate(fields))):
                error = getattr(errors, name)(**{field: at for at, field in some})
                self.assert_same([getattr(error, field) for field in fields], list(range(len(fields))))

    def test_objects_copy_the_lists_that_they_are_given(self):
        for (place, name), values in MADE.items():
            for word, value in values.items():
                if type(value) is list:
                    args = {key: fresh(other) for key, other in values.items()}
                    args[word] = [list(item) if type(item) is list else item for item in value]
                    found = getattr(MODULES[place], name)(**args)
                    before = told(found)
                    args[word].append(None)
                    args[word][0] = None
                    self.assert_same(told(found), before)

    def test_methods(self):
        found = log()
        self.assert_same(PROGRAM.rule(sign="pay", mode="on"), RULES[0])
        self.assert_same(PROGRAM.after(event=("pay", 1), state=STATE), ("on", (6,)))
        self.assert_same(PROGRAM.run(events=EVENTS, state=STATE), ("on", (2,)))
        self.assert_same(list(PROGRAM.trail(events=EVENTS[:1], state=STATE)), [STATE, ("on", (8,))])
        self.assert_same((PROGRAM.is_state(value=STATE), PROGRAM.is_event(value=STATE)), (True, False))
        self.assert_same(found.kept(level=1, place=3), (2, ((1, 2), (0, 1))))
        self.assert_same((found.next_cut(level=1, place=0), found.last_cut(level=1, place=1)), (2, 0))
        self.assert_same((found.height(place=2), found.cuts(level=1)), (1, [0, 2]))
        self.assert_same(found.with_events(events=[("pay", 1)]).events(), [*EVENTS, ("pay", 1)])
        self.assertIs(found.cut(place=1), None)
        self.assert_same(len(found), 1)
        self.assertIs(papers.Paper(0, 1, (1, 5), (1, 8), [("step", 1, 0)]).holds(log=found), True)

    def test_what_was_answered_before_stays(self):
        found = log()
        before = [logs.columns(found), found.cuts(0), papers.follow(found, 1, 3, (2, 7)),
                  starts.starts(found, 1, 3, ("on", (2,)), "on"), edits.plan(found, 0, 3, []), forgetting.falls(found, 0)]
        kept = [told(value) for value in before]
        found.cut(0)
        found.put(("reset", 1))
        self.assert_same([told(value) for value in before], kept)
        self.assertIs(before[2].holds(found), False)
        self.assertIs(before[2].holds(log()), True)
