"""Promise 18: looks, their values, and probes."""

from twinbegun.papers import Paper
from twinbegun.probes import Probe
from twinbegun.programs import Program
from tests.checks import (
    ODD, Checks, bare, cash, chance, drops, lights, many, moved, samples, some_events, some_program, some_state,
)
from tests.plain import plain_value

MOST = 10 ** 12
NO_LISTS = [value for value in ODD if not isinstance(value, (list, tuple))] + ["on", "look"]


def some_look(dice, program):
    """A random look of a program."""
    sources = [*program.registers(), "one"]
    look = []
    for mode in dice.sample(program.modes(), dice.randint(0, len(program.modes()))):
        chosen = dice.sample(sources, dice.randint(0, len(sources)))
        look.append((mode, tuple((source, dice.choice([-1000, -3, -1, 0, 1, 2, 1000])) for source in chosen)))
    return look


def some_probes(seed, size=60):
    """Random probes of programs of all shapes, told as (program, start, look)."""
    dice = chance(seed)
    for program in [*samples(), drops(), *[some_program(dice) for _ in range(size)]]:
        yield program, some_state(dice, program), some_look(dice, program)


def told_of(probe, state, events):
    """All that a probe tells, with its values at a state and behind a list of events."""
    parts = [probe.start, probe.program.modes(), probe.program.rules(), probe.look()]
    return [*parts, probe.value_at(state), probe.value(events), probe(events), probe.value([])]


class Values(Checks):
    def test_by_hand(self):
        program = lights()
        look = [("off", (("on", 3), ("one", -7), ("a", 0))), ("on", (("b", -1000), ("a", 1000)))]
        probe = Probe(program, ("on", (1, 2, 3)), look)
        self.assert_same(probe.value_at(("on", (5, 3, 10 ** 30))), 2000)
        self.assert_same(probe.value_at(("off", (5, 3, 4))), 5)
        self.assert_same(probe.value([]), -1000)
        self.assert_same(probe.value([("off", 0)]), 2)
        self.assert_same(probe.value([("off", 0), ("on", 2), ("swap", 0)]), 1000)

    def test_modes_without_a_pair(self):
        for program in (lights(), bare(), cash()):
            for look in ([], ()):
                probe = Probe(program, program.first_state(), look)
                for mode in program.modes():
                    state = (mode, (9,) * len(program.registers()))
                    self.assert_same(probe.value_at(state), 0)
        probe = Probe(bare(), ("a", ()), [("c", (("one", 4),)), ("b", ())])
        self.assert_same([probe.value_at((mode, ())) for mode in "abcd"], [0, 0, 4, 0])

    def test_at_states_by_the_definition(self):
        dice = chance(181)
        for program, start, look in some_probes(181):
            probe = Probe(program, start, look)
            for _ in range(12):
                state = some_state(dice, program)
                self.assert_same(probe.value_at(state), plain_value(program, look, state))

    def test_behind_events_by_the_definition(self):
        dice = chance(182)
        for program, start, look in some_probes(182):
            probe = Probe(program, start, look)
            for size in range(7):
                events = [(dice.choice(program.signs()), dice.choice([0, 1, -5, MOST, -MOST])) for _ in range(size)]
                state = start
                for event in events:
                    state = moved(program, state, event)
                wanted = plain_value(program, look, state)
                self.assert_same(probe.value(events), wanted)
                self.assert_same(probe.value(tuple(events)), wanted)
                self.assert_same(probe(events), wanted)
                self.assert_same(probe(events=events), wanted)

    def test_lists_that_are_longer_than_a_log(self):
        probe = Probe(cash(), ("on", (1,)), [("on", (("cash", 2),))])
        self.assert_same(probe([("pay", 3)] * 400), 2402)

    def test_questions_change_nothing(self):
        dice = chance(183)
        for program, start, look in some_probes(183, 10):
            probe = Probe(program, start, look)
            events = some_events(dice, program)
            before = list(events)
            first = probe.value(events)
            self.assert_same([probe(events), probe.value(events), events], [first, first, before])
            self.assert_same((probe.start, probe.look()), (start, look))


class Parts(Checks):
    def test_what_was_passed(self):
        for program, start, look in some_probes(184):
            probe = Probe(program, start, look)
            self.assertEqual(probe.program, program)
            self.assert_same((probe.start, probe.look()), (start, look))
            self.assert_same(Probe(program, start, tuple(look)).look(), look)

    def test_the_look_is_copied(self):
        look = [("on", (("cash", 2),))]
        probe = Probe(cash(), ("on", (3,)), look)
        look[0] = ("on", (("cash", 5),))
        look.append(None)
        self.assert_same((probe.look(), probe.value([])), ([("on", (("cash", 2),))], 6))
        probe.look().clear()
        probe.look().append(("on", ()))
        self.assert_same((probe.look(), probe.value([])), ([("on", (("cash", 2),))], 6))

    def test_it_never_changes(self):
        probe = Probe(cash(), ("on", (3,)), [])
        for name in ("program", "start"):
            with self.assertRaises(AttributeError):
                setattr(probe, name, None)

    def test_the_start_stays_behind_each_call(self):
        dice = chance(185)
        for program, start, look in some_probes(185):
            probe = Probe(program, start, look)
            events = some_events(dice, program)
            state = some_state(dice, program)
            calls = [(probe.value, events), (probe.value_at, state), (probe, events)]
            for call, passed in calls + calls[::-1]:
                self.assert_same(probe.start, start)
                call(passed)
                self.assert_same(probe.start, start)
            for call, name in [(probe.value, "InvalidEvent"), (probe.value_at, "InvalidState"), (probe, "InvalidEvent")]:
                self.assert_refused(name, [] if name == "InvalidState" else [0], call, None)
                self.assert_same(probe.start, start)

    def test_nothing_that_is_done_to_the_start_changes_what_is_told(self):
        dice = chance(186)
        for program, start, look in some_probes(186, 20):
            probe = Probe(program, start, look)
            events = some_events(dice, program)
            state = some_state(dice, program)
            before = told_of(probe, state, events)
            for value in [start, some_state(dice, program), program.first_state(), *ODD]:
                with self.assertRaises(AttributeError):
                    probe.start = value
                self.assert_same(told_of(probe, state, events), before)
            with self.assertRaises(AttributeError):
                probe.start += ()
            with self.assertRaises(AttributeError):
                del probe.start
            self.assert_same(told_of(probe, state, events), before)
            self.assert_same(before[0], start)

    def test_papers_and_probes_side_by_side(self):
        probe = Probe(cash(), ("on", (3,)), [("on", (("cash", 1),))])
        paper = Paper(0, 0, (1, 7), (1, 7), [])
        self.assert_same((probe.start, paper.start, probe.value([])), (("on", (3,)), (1, 7), 3))
        other = Probe(cash(), ("on", (4,)), [("on", (("cash", 1),))])
        self.assert_same((probe.start, other.start, probe([]), other([])), (("on", (3,)), ("on", (4,)), 3, 4))

    def test_by_name(self):
        probe = Probe(look=[("on", (("one", 4),))], start=("on", (3,)), program=cash())
        self.assert_same([probe.value_at(state=("on", (1,))), probe.value(events=[]), probe(events=[("pay", 1)])], [4] * 3)


class Wrong(Checks):
    def test_starts(self):
        for value in ODD + [("on",), ["on", (1,)], ("on", [1]), ("on", ()), ("on", (1, 2)), ("off", (1,)), ("on", (True,))]:
            for look in ([], None, [None]):
                self.assert_refused("InvalidState", [], Probe, cash(), value, look)
            probe = Probe(cash(), ("on", (3,)), [])
            self.assert_refused("InvalidState", [], probe.value_at, value)

    def test_looks_that_are_no_lists(self):
        for value in NO_LISTS:
            self.assert_refused("InvalidLook", [0], Probe, cash(), ("on", (3,)), value)

    def test_looks_that_are_wrong_at_each_place(self):
        good = [("on", (("cash", 1),)), ("off", (("one", 2), ("cash", -1000)))]
        program = Program(["on", "off", "idle"], ["cash"], ["pay"])
        wrong = ODD + [
            ("on",), ("on", (), ()), ["on", ()], ((), "on"), ("no", ()), ("cash", ()), ("pay", ()), ("one", ()),
            (["on"], ()), (("on",), ()), ("idle", []), ("idle", None), ("idle", "cash"), ("idle", "one"), ("idle", 0),
            ("idle", ("cash", 1)), ("idle", (["cash", 1],)), ("idle", [("cash", 1)]), ("idle", (("cash",),)),
            ("idle", (("cash", 1, 1),)), ("idle", (("amount", 1),)), ("idle", (("on", 1),)), ("idle", (("pay", 1),)),
            ("idle", (("idle", 1),)), ("idle", (("cash", 1001),)), ("idle", (("one", -1001),)), ("idle", (("one", True),)),
            ("idle", (("cash", False),)), ("idle", (("cash", None),)), ("idle", (("cash", "1"),)),
            ("idle", (("cash", (1,)),)), ("idle", (("cash", 1), ("cash", 1))), ("idle", (("one", 1), ("cash", 0), ("one", 1))),
            ("idle", (("cash", 1), None)), ("idle", (("cash", 1), ("amount", 0))), ("idle", ((["cash"], 1),)),
        ]
        for value in wrong:
            for at in range(3):
                look = good[:at] + [value]
                self.assert_refused("InvalidLook", [at], Probe, program, ("on", (3,)), look)
                self.assert_refused("InvalidLook", [at], Probe, program, ("on", (3,)), tuple(look))
                self.assert_refused("InvalidLook", [at], Probe, program, ("on", (3,)), [*look, value, *good, None])

    def test_a_mode_twice(self):
        program = bare()
        look = [("a", (("one", 1),)), ("b", ()), ("c", (("one", 2),))]
        for at, pair in enumerate(look):
            for fresh in (pair, (pair[0], ()), (pair[0], (("one", 9),))):
                self.assert_refused("InvalidLook", [3], Probe, program, ("a", ()), [*look, fresh, None])
                self.assert_refused("InvalidLook", [at + 1], Probe, program, ("a", ()), [*look[:at + 1], fresh, *look])
        self.assert_refused("InvalidLook", [1], Probe, program, ("a", ()), [("a", ()), None, ("a", ())])

    def test_factors_at_both_bounds(self):
        for factor in (-1000, 0, 1000):
            probe = Probe(cash(), ("on", (3,)), [("on", (("cash", factor), ("one", -factor)))])
            self.assert_same(probe.value([]), 2 * factor)

    def test_registers_and_one(self):
        state = ("m", (1, 20, 300, 4000))
        terms = (("s", 1), ("one", 500), ("p", 1), ("r", 1), ("q", 1))
        self.assert_same(Probe(many(), state, [("m", terms)]).value([]), 4821)

    def test_events(self):
        probe = Probe(cash(), ("on", (3,)), [("on", (("cash", 1),))])
        for value in NO_LISTS:
            self.assert_refused("InvalidEvent", [0], probe.value, value)
            self.assert_refused("InvalidEvent", [0], probe, value)
        good = [("pay", 1), ("reset", 0)]
        for value in ODD + [("pay",), ["pay", 1], ("pay", 1, 1), ("on", 1), ("pay", True), ("pay", MOST + 1), (1, "pay")]:
            for at in range(3):
                events = good[:at] + [value, None]
                self.assert_refused("InvalidEvent", [at], probe.value, events)
                self.assert_refused("InvalidEvent", [at], probe.value, tuple(events))
                self.assert_refused("InvalidEvent", [at], probe, events)
        self.assert_same(probe(good), 0)
