"""Promise 21: the commands of a workspace and their errors, names, limits, twins and equality."""

from twinbegun.logs import KeptLog
from twinbegun.programs import Program
from twinbegun.workspaces import Workspace
from tests.checks import ODD, Checks, beyond, cash, chance, drops, samples, some_event
from tests.models import PlainWorkspace, Refused

MOST = 10 ** 12
NAMES = ["a", "b", "c", "d", "e", "f", "g", "h", "i", "j", "k", "l", "m", "n"]
NO_NAMES = [value for value in ODD if value not in ("on",)]
NO_EVENTS = ODD + [("pay",), ["pay", 1], ("pay", 1, 1), ("on", 1), ("pay", True), ("pay", MOST + 1), (1, "pay"), "pay"]
PAY = ("pay", 3)
NO_COMMANDS = ODD + [
    "new", "undo", ["new", "z"], ("NEW", "z"), ("ne", "z"), ("undo",), ("redo",), ("names",), ("limit", 3), ("set", "z"),
    ("new",), ("new", "z", "y"), ("put",), ("put", "a"), ("put", "a", "pay", 3), ("put", "a", PAY, PAY), ("cut",),
    ("cut", "a"), ("cut", "a", 0, 0), ("branch",), ("branch", "a"), ("branch", "a", "z", "y"), ("drop",),
    ("drop", "a", "b"), (("new", "z"),), (["new"], "z"), (("new",), "z"), ("z", "new"), (True, "z"), (None, "z"), (0, "z"),
]


def filled(limit=8):
    """A workspace with the logs a, of two events, and b, of none; a step each."""
    workspace = Workspace(cash(), limit=limit)
    workspace.apply(("new", "a"))
    workspace.apply(("put", "a", PAY), ("put", "a", ("reset", 0)), ("new", "b"))
    return workspace


def logs_of(workspace):
    """The events of all logs by name."""
    return {name: workspace.log_of(name).events() for name in workspace.names()}


class Watched(Checks):
    def told(self, workspace):
        """All that a workspace tells."""
        return (logs_of(workspace), workspace.names(), workspace.history(), workspace.busy, workspace.limit,
                len(workspace), repr(workspace))

    def check(self, workspace, plain):
        """The workspace is as the plain one."""
        many = len(plain.logs)
        wanted = (dict(sorted(plain.logs.items())), sorted(plain.logs), (len(plain.done), len(plain.undone)), False,
                  plain.limit, many, f"Workspace({many} logs)")
        self.assert_same(self.told(workspace), wanted)

    def refuse(self, workspace, name, told, *commands):
        """The commands are refused, and nothing has changed."""
        before = self.told(workspace)
        self.assert_refused(name, told, workspace.apply, *commands)
        self.assert_same(self.told(workspace), before)


class Commands(Watched):
    def test_the_empty_workspace(self):
        workspace = Workspace(cash())
        self.assert_same(self.told(workspace), ({}, [], (0, 0), False, 8, 0, "Workspace(0 logs)"))
        self.assertEqual(workspace.program, cash())

    def test_each_command(self):
        workspace = Workspace(cash())
        self.assertIs(workspace.apply(("new", "b")), None)
        self.assert_same(logs_of(workspace), {"b": []})
        workspace.apply(("put", "b", PAY))
        workspace.apply(("put", "b", ("reset", -MOST)))
        self.assert_same(logs_of(workspace), {"b": [PAY, ("reset", -MOST)]})
        workspace.apply(("branch", "b", "a"))
        self.assert_same(logs_of(workspace), {"a": [PAY, ("reset", -MOST)], "b": [PAY, ("reset", -MOST)]})
        workspace.apply(("cut", "b", 1))
        self.assert_same(logs_of(workspace), {"a": [PAY, ("reset", -MOST)], "b": [PAY]})
        workspace.apply(("put", "a", ("pay", MOST)))
        self.assert_same(logs_of(workspace), {"a": [PAY, ("reset", -MOST), ("pay", MOST)], "b": [PAY]})
        workspace.apply(("drop", "a"))
        self.assert_same(logs_of(workspace), {"b": [PAY]})
        self.assert_same((workspace.history(), workspace.names(), len(workspace)), ((7, 0), ["b"], 1))
        self.assert_same(repr(workspace), "Workspace(1 logs)")

    def test_cuts_at_all_places(self):
        events = [("pay", at) for at in range(5)]
        for place in range(6):
            workspace = Workspace(cash())
            workspace.apply(("new", "a"), *[("put", "a", event) for event in events], ("cut", "a", place))
            self.assert_same(workspace.log_of("a").events(), events[:place])
            workspace.apply(("put", "a", PAY))
            self.assert_same(workspace.log_of("a").events(), events[:place] + [PAY])

    def test_several_commands_are_one_step(self):
        workspace = Workspace(cash())
        workspace.apply(("new", "a"), ("put", "a", PAY), ("branch", "a", "b"), ("put", "b", PAY), ("drop", "a"), ("new", "a"))
        self.assert_same((logs_of(workspace), workspace.history()), ({"a": [], "b": [PAY, PAY]}, (1, 0)))
        workspace.undo()
        self.assert_same((logs_of(workspace), workspace.history()), ({}, (0, 1)))

    def test_a_call_without_commands_is_a_step(self):
        workspace = filled()
        workspace.apply()
        self.assert_same(workspace.history(), (3, 0))
        workspace.undo()
        self.assert_same((logs_of(workspace), workspace.history()), ({"a": [PAY, ("reset", 0)], "b": []}, (2, 1)))
        workspace.apply()
        self.assert_same(workspace.history(), (3, 0))

    def test_names_ascend(self):
        workspace = Workspace(Program.idle("a"), limit=12)
        for name in ["b", "ab", "aa", "a", "z", "abcdef", "ba"]:
            workspace.apply(("new", name))
        self.assert_same(workspace.names(), ["a", "aa", "ab", "abcdef", "b", "ba", "z"])
        workspace.names().clear()
        self.assert_same(len(workspace.names()), 7)

    def test_twelve_logs(self):
        workspace = Workspace(cash(), limit=12)
        for name in NAMES[:12]:
            workspace.apply(("new", name), ("put", name, PAY))
        self.assert_same((len(workspace), repr(workspace)), (12, "Workspace(12 logs)"))
        self.refuse(workspace, "Full", [12], ("new", "m"))
        self.refuse(workspace, "Full", [12], ("branch", "a", "m"))
        workspace.apply(("drop", "c"), ("branch", "a", "m"))
        self.assert_same((len(workspace), "c" in workspace, "m" in workspace), (12, False, True))

    def test_200_events_in_a_log(self):
        workspace = Workspace(cash())
        workspace.apply(("new", "a"), *[("put", "a", ("pay", at)) for at in range(199)])
        self.refuse(workspace, "Full", [200], ("put", "a", PAY), ("put", "a", PAY))
        workspace.apply(("put", "a", PAY), ("branch", "a", "b"))
        self.refuse(workspace, "Full", [200], ("put", "a", PAY))
        self.refuse(workspace, "Full", [200], ("put", "b", PAY))
        self.refuse(workspace, "InvalidEvent", [0], ("put", "a", None))
        self.assert_same(len(workspace.log_of("b")), 200)
        workspace.apply(("cut", "a", 199), ("put", "a", PAY))
        self.assert_same(workspace.log_of("a").events(), [("pay", at) for at in range(199)] + [PAY])


class Refusals(Watched):
    def test_new(self):
        workspace = filled(2)
        for value in NO_NAMES:
            self.refuse(workspace, "InvalidName", [value], ("new", value))
        for name in ("a", "b"):
            self.refuse(workspace, "DuplicateName", [name], ("new", name))
        self.refuse(workspace, "Full", [2], ("new", "c"))

    def test_put(self):
        workspace = filled()
        for value in NO_NAMES + ["c", "on", "pay"]:
            self.refuse(workspace, "UnknownName", [value], ("put", value, PAY))
            self.refuse(workspace, "UnknownName", [value], ("put", value, None))
        for value in NO_EVENTS:
            self.refuse(workspace, "InvalidEvent", [0], ("put", "a", value))
            self.refuse(workspace, "InvalidEvent", [0], ("put", "b", PAY), ("put", "b", value))

    def test_cut(self):
        workspace = filled()
        for value in NO_NAMES + ["c", "on", "pay"]:
            self.refuse(workspace, "UnknownName", [value], ("cut", value, 0))
            self.refuse(workspace, "UnknownName", [value], ("cut", value, None))
        for value in beyond(0, 2):
            self.refuse(workspace, "InvalidPlace", [value], ("cut", "a", value))
        for value in beyond(0, 0):
            self.refuse(workspace, "InvalidPlace", [value], ("cut", "b", value))

    def test_branch(self):
        workspace = filled(2)
        for value in NO_NAMES + ["c", "on", "pay"]:
            for fresh in ("c", "a", None, "one"):
                self.refuse(workspace, "UnknownName", [value], ("branch", value, fresh))
        for value in NO_NAMES:
            self.refuse(workspace, "InvalidName", [value], ("branch", "a", value))
        for name in ("a", "b"):
            self.refuse(workspace, "DuplicateName", [name], ("branch", "a", name))
        self.refuse(workspace, "Full", [2], ("branch", "a", "c"))
        self.refuse(workspace, "Full", [2], ("branch", "b", "abcdef"))

    def test_drop(self):
        workspace = filled()
        for value in NO_NAMES + ["c", "on", "pay"]:
            self.refuse(workspace, "UnknownName", [value], ("drop", value))
        self.refuse(workspace, "UnknownName", ["a"], ("drop", "a"), ("drop", "a"))

    def test_values_that_are_no_commands(self):
        workspace = filled()
        for value in NO_COMMANDS:
            self.refuse(workspace, "InvalidCommand", [0], value)
            self.refuse(workspace, "InvalidCommand", [1], ("new", "c"), value)
            self.refuse(workspace, "InvalidCommand", [1], ("drop", "z"), value, ("put", "a", None))
            self.refuse(workspace, "InvalidCommand", [2], ("new", "a"), ("put", "c", None), value, value, None)

    def test_a_wrong_command_at_each_place(self):
        good = [("new", "c"), ("put", "c", PAY), ("cut", "a", 1), ("branch", "a", "d"), ("drop", "b")]
        wrong = [
            (("new", "a"), "DuplicateName", ["a"]), (("new", "one"), "InvalidName", ["one"]),
            (("put", "z", PAY), "UnknownName", ["z"]), (("put", "a", ("pay", None)), "InvalidEvent", [0]),
            (("cut", "z", 0), "UnknownName", ["z"]), (("cut", "a", 3), "InvalidPlace", [3]),
            (("branch", "z", "y"), "UnknownName", ["z"]), (("branch", "a", "A"), "InvalidName", ["A"]),
            (("branch", "a", "a"), "DuplicateName", ["a"]), (("drop", "z"), "UnknownName", ["z"]),
        ]
        for command, name, told in wrong:
            for at in range(6):
                commands = [*good[:at], command, *good[at:]]
                self.refuse(filled(), name, told, *commands)
                # Of two wrong ones the first one counts.
                self.refuse(filled(), name, told, *commands, ("drop", "none"), ("new", None))
                self.refuse(filled(), "InvalidCommand", [6], *commands, ("drop",))

    def test_commands_see_what_those_ahead_of_them_did(self):
        workspace = filled(3)
        self.refuse(workspace, "DuplicateName", ["c"], ("new", "c"), ("new", "c"))
        self.refuse(workspace, "Full", [3], ("new", "c"), ("new", "d"))
        self.refuse(workspace, "Full", [3], ("new", "c"), ("branch", "c", "d"))
        self.refuse(workspace, "UnknownName", ["a"], ("drop", "a"), ("put", "a", PAY))
        self.refuse(workspace, "InvalidPlace", [2], ("cut", "a", 1), ("cut", "a", 2))
        self.refuse(workspace, "UnknownName", ["c"], ("put", "c", PAY), ("new", "c"))
        workspace.apply(("drop", "a"), ("new", "a"), ("new", "c"), ("put", "a", PAY), ("cut", "a", 1))
        self.assert_same(logs_of(workspace), {"a": [PAY], "b": [], "c": []})

    def test_errors_leave_what_can_be_redone(self):
        workspace = filled()
        workspace.undo()
        self.refuse(workspace, "UnknownName", ["z"], ("new", "q"), ("drop", "z"))
        self.refuse(workspace, "InvalidCommand", [1], ("new", "q"), None)
        self.assert_same(workspace.history(), (1, 1))
        workspace.redo()
        self.assert_same(logs_of(workspace), {"a": [PAY, ("reset", 0)], "b": []})


class Anything(Watched):
    """Rows of deeds at random, right and wrong ones, at a workspace and at a plain one."""

    def command(self, dice, program):
        names = ["a", "b", "c", "d", "e"] * 3 + ["one", "A", None]
        word = dice.choice(["new", "put", "put", "put", "cut", "branch", "drop"])
        if dice.random() < 0.03:
            return dice.choice(NO_COMMANDS)
        if word in ("new", "drop"):
            return word, dice.choice(names)
        if word == "branch":
            return word, dice.choice(names), dice.choice(names)
        if word == "cut":
            return word, dice.choice(names), dice.choice([0, 1, 2, 3, -1, True])
        return word, dice.choice(names), dice.choice([some_event(dice, program)] * 8 + [None])

    def both(self, call, plain_call, *args):
        """Calls both; one of them is refused if the other one is, and in the same way."""
        try:
            plain_call(*args)
        except Refused as error:
            self.assert_refused(error.name, error.told, call, *args)
            return error.name
        self.assertIs(call(*args), None)
        return "ok"

    def test_any_deeds_in_any_order(self):
        met = {}
        for seed, program in enumerate([*samples(), drops()] * 6):
            dice = chance(210 + seed)
            limit = dice.choice([1, 2, 3, 4, 8, 12])
            workspace, plain = Workspace(program, limit=limit), PlainWorkspace(program, limit)
            for _ in range(60):
                word = dice.choice(["apply"] * 5 + ["undo", "undo", "redo", "set_limit"])
                args = []
                if word == "apply":
                    args = [self.command(dice, program) for _ in range(dice.choice([0, 1, 1, 1, 2, 3]))]
                elif word == "set_limit":
                    args = [dice.choice([0, 1, 2, 3, 4, 5, 12, 13, True, "3"])]
                found = self.both(getattr(workspace, word), getattr(plain, word), *args)
                met[word, found] = met.get((word, found), 0) + 1
                self.check(workspace, plain)
        for name in ("ok", "InvalidCommand", "InvalidName", "DuplicateName", "UnknownName", "Full", "InvalidPlace",
                     "InvalidEvent"):
            self.assertGreater(met["apply", name], 5, name)
        for word, name in [("undo", "ok"), ("undo", "NothingLeft"), ("redo", "ok"), ("redo", "NothingLeft"),
                           ("set_limit", "ok"), ("set_limit", "InvalidLimit")]:
            self.assertGreater(met[word, name], 5, (word, name))


class Limits(Watched):
    def test_by_the_constructor(self):
        for limit in range(1, 13):
            self.assert_same(Workspace(cash(), limit=limit).limit, limit)
        for value in beyond(1, 12):
            self.assert_refused("InvalidLimit", [value], Workspace, cash(), limit=value)
        self.assert_same((Workspace(cash()).limit, Workspace.MOST), (8, 12))
        self.assert_same(Workspace(limit=5, program=cash()).limit, 5)
        with self.assertRaises(TypeError):
            Workspace(cash(), 5)

    def assign(self, workspace, value):
        workspace.limit = value

    def test_by_assignment_and_by_set_limit(self):
        for change in (self.assign, Workspace.set_limit):
            workspace = Workspace(cash())
            for limit in [*range(1, 13), 1, 12, 5]:
                self.assertIs(change(workspace, limit), None)
                self.assert_same(workspace.limit, limit)
            before = self.told(workspace)
            for value in beyond(1, 12):
                self.assert_refused("InvalidLimit", [value], change, workspace, value)
            self.assert_same(self.told(workspace), before)
        Workspace.set_limit(limit=3, self=workspace)
        self.assert_same(workspace.limit, 3)

    def test_from_the_number_of_logs_on(self):
        for change in (self.assign, Workspace.set_limit):
            for many in range(13):
                workspace = Workspace(cash(), limit=12)
                workspace.apply(*[("new", name) for name in NAMES[:many]])
                for limit in range(-1, 15):
                    if max(many, 1) <= limit <= 12:
                        change(workspace, limit)
                        self.assert_same(workspace.limit, limit)
                    else:
                        self.assert_refused("InvalidLimit", [limit], change, workspace, limit)

    def test_at_the_limit(self):
        for limit in range(1, 13):
            workspace = Workspace(cash(), limit=limit)
            workspace.apply(*[("new", name) for name in NAMES[:limit]])
            self.refuse(workspace, "Full", [limit], ("new", NAMES[limit]))
            self.refuse(workspace, "Full", [limit], ("branch", "a", NAMES[limit]))
            workspace.apply(("drop", "a"), ("new", NAMES[limit]))
            if limit < 12:
                workspace.limit = limit + 1
                workspace.apply(("new", "a"))
                self.assert_same(len(workspace), limit + 1)

    def test_it_is_no_step(self):
        workspace = filled()
        workspace.undo()
        workspace.limit = 3
        workspace.set_limit(5)
        self.assert_same((workspace.history(), workspace.limit), ((1, 1), 5))
        workspace.redo()
        self.assert_same((workspace.history(), workspace.limit), ((2, 0), 5))
        workspace.undo()
        workspace.undo()
        self.assert_same((workspace.history(), workspace.limit, len(workspace)), ((0, 2), 5, 0))

    def test_undo_and_redo_do_not_look_at_it(self):
        workspace = Workspace(cash(), limit=3)
        workspace.apply(("new", "a"), ("new", "b"), ("new", "c"))
        workspace.apply(("drop", "a"), ("drop", "b"))
        workspace.set_limit(1)
        workspace.undo()
        self.assert_same((workspace.names(), workspace.limit), (["a", "b", "c"], 1))
        self.refuse(workspace, "Full", [1], ("new", "d"))
        self.refuse(workspace, "Full", [1], ("branch", "a", "d"))
        self.refuse(workspace, "Full", [1], ("drop", "a"), ("new", "d"))
        for limit in (1, 2):
            self.assert_refused("InvalidLimit", [limit], workspace.set_limit, limit)
        workspace.redo()
        self.assert_same((workspace.names(), workspace.limit), (["c"], 1))
        workspace.undo()
        workspace.undo()
        self.assert_same((workspace.names(), workspace.limit), ([], 1))
        workspace.redo()
        self.assert_same((workspace.names(), workspace.limit), (["a", "b", "c"], 1))


class History(Watched):
    def test_up_to_both_ends_and_beyond(self):
        workspace = Workspace(cash())
        self.assert_refused("NothingLeft", [], workspace.undo)
        self.assert_refused("NothingLeft", [], workspace.redo)
        deeds = [[("new", "a")], [("put", "a", PAY)], [], [("branch", "a", "b"), ("put", "a", PAY)], [("drop", "a")]]
        states = [self.state(workspace)]
        for commands in deeds:
            workspace.apply(*commands)
            states.append(self.state(workspace))
        for _ in range(2):
            self.assert_refused("NothingLeft", [], workspace.redo)
            self.assert_same((self.state(workspace), workspace.history()), (states[5], (5, 0)))
            for at in reversed(range(5)):
                self.assertIs(workspace.undo(), None)
                self.assert_same((self.state(workspace), workspace.history()), (states[at], (at, 5 - at)))
            self.assert_refused("NothingLeft", [], workspace.undo)
            self.assert_same((self.state(workspace), workspace.history()), (states[0], (0, 5)))
            for at in range(1, 6):
                self.assertIs(workspace.redo(), None)
                self.assert_same((self.state(workspace), workspace.history()), (states[at], (at, 5 - at)))

    def state(self, workspace):
        return logs_of(workspace), workspace.names(), len(workspace), repr(workspace), workspace.busy

    def test_a_step_behind_an_undo(self):
        workspace = filled()
        workspace.undo()
        workspace.undo()
        self.assert_same(workspace.history(), (0, 2))
        workspace.apply(("new", "c"))
        self.assert_same((workspace.names(), workspace.history()), (["c"], (1, 0)))
        self.assert_refused("NothingLeft", [], workspace.redo)
        workspace.undo()
        self.assert_same((workspace.names(), workspace.history()), ([], (0, 1)))
        workspace.redo()
        self.assert_same(workspace.names(), ["c"])

    def test_steps_do_not_change_what_stands_behind_an_undo(self):
        workspace = filled()
        workspace.apply(("branch", "a", "c"))
        workspace.apply(("put", "a", PAY), ("cut", "c", 0), ("put", "c", ("reset", 8)))
        self.assert_same(logs_of(workspace), {"a": [PAY, ("reset", 0), PAY], "b": [], "c": [("reset", 8)]})
        workspace.undo()
        self.assert_same(logs_of(workspace), {"a": [PAY, ("reset", 0)], "b": [], "c": [PAY, ("reset", 0)]})
        workspace.undo()
        self.assert_same(logs_of(workspace), {"a": [PAY, ("reset", 0)], "b": []})


class Others(Watched):
    def test_logs_are_independent(self):
        workspace = filled()
        log = workspace.log_of("a")
        self.assertIs(type(log), KeptLog)
        self.assert_same((log.worked, log.events(), log.cuts(1)), (0, [PAY, ("reset", 0)], [0, 2]))
        self.assertEqual(log, KeptLog(cash(), [PAY, ("reset", 0)]))
        log.cut(0)
        log.put(("pay", 9))
        self.assert_same((log.worked, workspace.log_of("a").events()), (1, [PAY, ("reset", 0)]))
        log = workspace.log_of(name="a")
        workspace.apply(("put", "a", PAY), ("drop", "b"))
        self.assert_same((log.events(), workspace.log_of("a").worked), ([PAY, ("reset", 0)], 0))
        for value in NO_NAMES + ["b", "c", "on", "pay"]:
            self.assert_refused("UnknownName", [value], workspace.log_of, value)

    def test_twins(self):
        workspace = filled(5)
        workspace.apply(("branch", "a", "c"))
        workspace.undo()
        twin = workspace.twin()
        self.assertIs(type(twin), Workspace)
        before = self.told(workspace)
        self.assert_same(self.told(twin), before)
        self.assert_same(before[2], (2, 1))
        self.assertEqual(twin, workspace)
        self.assertEqual(twin.program, workspace.program)
        twin.redo()
        twin.apply(("put", "a", PAY), ("cut", "c", 0), ("drop", "b"))
        twin.limit = 2
        self.assert_same(self.told(workspace), before)
        told = self.told(twin)
        workspace.redo()
        self.assert_same(logs_of(workspace), {"a": [PAY, ("reset", 0)], "b": [], "c": [PAY, ("reset", 0)]})
        workspace.undo()
        workspace.undo()
        workspace.apply(("put", "a", ("pay", 8)))
        workspace.limit = 12
        self.assert_same(self.told(twin), told)
        twin.undo()
        twin.undo()
        twin.undo()
        twin.undo()
        self.assert_same((logs_of(twin), twin.history(), twin.limit), ({}, (0, 4), 2))

    def test_a_twin_with_more_logs_than_the_limit(self):
        workspace = Workspace(cash(), limit=3)
        workspace.apply(("new", "a"), ("new", "b"), ("new", "c"))
        workspace.apply(("drop", "a"), ("drop", "b"))
        workspace.limit = 1
        workspace.undo()
        self.assert_same(self.told(workspace.twin()), self.told(workspace))

    def test_in(self):
        workspace = filled()
        for value in ODD + ["a", "b", "c", ["a"], ("a",), ("a", "b"), ["a", "b"]]:
            self.assertIs(value in workspace, type(value) is str and value in ("a", "b"), value)
            self.assertIs(value not in workspace, value not in ("a", "b"), value)
        workspace.apply(("drop", "a"), ("new", "on"))
        self.assert_same(["a" in workspace, "b" in workspace, "on" in workspace], [False, True, True])
        workspace.undo()
        self.assert_same(["a" in workspace, "b" in workspace, "on" in workspace], [True, True, False])

    def same(self, one, other, wanted):
        self.assert_same([one == other, other == one, one != other, other != one], [wanted] * 2 + [not wanted] * 2)

    def test_equality(self):
        self.same(Workspace(cash()), Workspace(cash()), True)
        self.same(Workspace(cash()), Workspace(Program.idle("pay", "reset")), False)
        self.same(filled(), filled(), True)
        self.same(filled(), filled(3), True)
        self.same(filled(), Workspace(cash()), False)
        other = Workspace(cash())
        other.apply(("new", "b"), ("new", "a"), ("put", "a", PAY), ("put", "a", ("reset", 0)))
        self.same(filled(), other, True)
        other.apply(("put", "b", PAY))
        self.same(filled(), other, False)
        other.undo()
        self.same(filled(), other, True)
        other.apply(("new", "c"))
        self.same(filled(), other, False)
        other.apply(("drop", "c"), ("drop", "b"))
        self.same(filled(), other, False)
        other.apply(("branch", "a", "b"), ("cut", "b", 0))
        self.same(filled(), other, True)
        other.apply(("cut", "a", 1), ("put", "a", ("reset", 1)))
        self.same(filled(), other, False)
        other = Workspace(cash())
        other.apply(("new", "c"), ("put", "c", PAY), ("put", "c", ("reset", 0)), ("new", "b"))
        self.same(filled(), other, False)

    def test_a_workspace_equals_nothing_else(self):
        for value in ODD + [cash(), KeptLog(cash()), {}, "a", ["a", "b"]]:
            self.same(filled(), value, False)
            self.same(Workspace(cash()), value, False)

    def test_properties_cannot_be_assigned_but_for_the_limit(self):
        workspace = filled()
        for name in ("program", "busy"):
            with self.assertRaises(AttributeError):
                setattr(workspace, name, cash())
        self.assert_same((workspace.busy, workspace.history()), (False, (2, 0)))
