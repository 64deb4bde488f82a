"""Promises 6 to 9: states, events, and what events make of a state."""

import copy

from twinbegun.programs import Program
from tests.checks import (
    ODD, Checks, cash, chance, letters, lights, many, moved, samples, some_event, some_events, some_program,
    some_state,
)

NO_LISTS = [value for value in ODD if not isinstance(value, (list, tuple))] + ["a", "on", "abc"]


def folded(program, state, events):
    """The states that moved leads through."""
    states = [state]
    for event in events:
        states.append(moved(program, states[-1], event))
    return states


class States(Checks):
    def test_states(self):
        for program in samples():
            for mode in program.modes():
                for number in (0, 1, -1, 10 ** 12 + 1, -(10 ** 599)):
                    values = (number,) * len(program.registers())
                    self.assertIs(program.is_state((mode, values)), True)
                    self.assertIs(program.is_state(value=(mode, values)), True)

    def test_other_values(self):
        for program in samples():
            for value in ODD + [program.first_state()[0], program.first_state()[1], list(program.first_state())]:
                self.assertIs(program.is_state(value), False, value)

    def test_wrong_modes(self):
        for program in samples():
            values = program.first_state()[1]
            for mode in ODD + ["offf", "cash", "pay", "amount", [program.modes()[0]], (program.modes()[0],)]:
                self.assertIs(program.is_state((mode, values)), False, mode)

    def test_wrong_numbers_of_parts(self):
        self.assertIs(cash().is_state(("on",)), False)
        self.assertIs(cash().is_state(("on", (1,), ())), False)
        self.assertIs(cash().is_state(("on", (1,), (1,))), False)
        self.assertIs(cash().is_state(("on", 1)), False)
        self.assertIs(cash().is_state(((1,), "on")), False)

    def test_wrong_numbers_of_values(self):
        for program in samples():
            mode, values = program.first_state()
            self.assertIs(program.is_state((mode, values + (0,))), False)
            if values:
                self.assertIs(program.is_state((mode, values[1:])), False)
            self.assertIs(program.is_state((mode, list(values))), False)
            self.assertIs(program.is_state([mode, values]), False)

    def test_wrong_values(self):
        for value in ODD:
            if value != ():
                self.assertIs(Program.idle("a").is_state(("on", value)), False)
            self.assertIs(cash().is_state(("on", value)), False)
            if type(value) is not int:
                self.assertIs(cash().is_state(("on", (value,))), False)
                for at in range(4):
                    values = [0, 1, 2, 3]
                    values[at] = value
                    self.assertIs(many().is_state(("m", tuple(values))), False)

    def test_a_mode_of_its_own_program_only(self):
        self.assertIs(lights().is_state(("off", (1, 2, 3))), True)
        self.assertIs(lights().is_state(("a", (1, 2, 3))), False)


class Events(Checks):
    def test_events(self):
        for program in samples():
            for sign in program.signs():
                for amount in (0, 1, -1, 10 ** 12, -(10 ** 12), 10 ** 12 - 1, 1 - 10 ** 12):
                    self.assertIs(program.is_event((sign, amount)), True)
                    self.assertIs(program.is_event(value=(sign, amount)), True)
                for amount in (10 ** 12 + 1, -(10 ** 12) - 1, 10 ** 599):
                    self.assertIs(program.is_event((sign, amount)), False)

    def test_other_values(self):
        for program in samples():
            sign = program.signs()[0]
            for value in ODD + [sign, (sign,), (sign, 1, 1), [sign, 1], (1, sign), (sign, "1"), ((sign, 1),)]:
                self.assertIs(program.is_event(value), False, value)

    def test_wrong_signs_and_amounts(self):
        for value in ODD + ["on", "cash", ["pay"], ("pay",)]:
            self.assertIs(cash().is_event((value, 1)), False, value)
            if type(value) is not int or abs(value) > 10 ** 12:
                self.assertIs(cash().is_event(("pay", value)), False, value)


class After(Checks):
    def test_each_rule(self):
        dice = chance(1)
        for program in samples():
            for mode in program.modes():
                for sign in program.signs():
                    for amount in (0, 1, -7, 10 ** 12, -(10 ** 12)):
                        values = tuple(dice.randint(-99, 99) for _ in program.registers())
                        found = program.after((mode, values), (sign, amount))
                        self.assert_same(found, moved(program, (mode, values), (sign, amount)))

    def test_by_hand(self):
        self.assert_same(cash().after(("on", (5,)), ("pay", 3)), ("on", (8,)))
        self.assert_same(cash().after(("on", (5,)), ("reset", 3)), ("on", (0,)))
        self.assert_same(lights().after(("on", (1, 2, 3)), ("swap", 9)), ("on", (2, 1, 3)))
        self.assert_same(lights().after(("off", (1, 2, 3)), ("swap", 9)), ("off", (1, 2, 3)))
        self.assert_same(lights().after(("on", (1, 2, 3)), ("off", 9)), ("off", (1, 2, 3)))
        self.assert_same(lights().after(("on", (1, 2, 3)), ("on", 9)), ("on", (1, 2, 3)))
        self.assert_same(lights().after(("off", (1, 2, 3)), ("on", 9)), ("on", (1, 2, 9003)))
        self.assert_same(lights().after(("off", (1, 2, 3)), ("sum", 9)), ("off", (-2997, 0, 7)))
        self.assert_same(lights().after(("on", (1, 2, 3)), ("sum", 9)), ("off", (1, -18, 3)))
        self.assert_same(many().after(("m", (1, 2, 3, 4)), ("mix", 9)), ("m", (47, 2004, 3, 5)))
        self.assert_same(many().after(("m", (1, 2, 3, 4)), ("zero", 9)), ("m", (3, 2, 0, 4)))

    def test_by_name(self):
        self.assert_same(cash().after(event=("pay", 1), state=("on", (1,))), ("on", (2,)))

    def test_random_programs(self):
        dice = chance(2)
        for _ in range(400):
            program = some_program(dice)
            state = some_state(dice, program)
            event = some_event(dice, program)
            self.assert_same(program.after(state, event), moved(program, state, event))

    def test_numbers_of_any_size(self):
        big = 10 ** 599
        self.assert_same(cash().after(("on", (big,)), ("pay", -1)), ("on", (big - 1,)))

    def test_refused(self):
        for value in ODD + [["on", (1,)], ("on", [1]), ("on", (1, 2)), ("on", (True,)), ("off", (1,))]:
            self.assert_refused("InvalidState", [], cash().after, value, ("pay", 1))
            self.assert_refused("InvalidState", [], cash().after, value, None)
        for value in ODD + [["pay", 1], ("pay", True), ("pay", 10 ** 12 + 1), ("cash", 1), [("pay", 1)]]:
            self.assert_refused("InvalidEvent", [0], cash().after, ("on", (1,)), value)
            self.assert_refused("InvalidState", [], cash().after, ("on", (False,)), value)


class Runs(Checks):
    def test_random_programs(self):
        dice = chance(3)
        for _ in range(300):
            program = some_program(dice)
            state = some_state(dice, program)
            events = some_events(dice, program)
            states = folded(program, state, events)
            for given in (events, tuple(events)):
                before = copy.deepcopy(given)
                self.assert_same(program.run(state, given), states[-1])
                self.assert_same(list(program.trail(state, given)), states)
                self.assert_same(given, before)

    def test_no_events(self):
        for program in samples():
            for events in ([], ()):
                self.assert_same(program.run(program.first_state(), events), program.first_state())
                self.assert_same(list(program.trail(program.first_state(), events)), [program.first_state()])

    def test_long_lists(self):
        program = letters()
        signs = program.signs()
        events = [(signs[at * at % 6], at - 200) for at in range(400)]
        states = folded(program, ("c", (12,)), events)
        self.assert_same(program.run(("c", (12,)), events), states[-1])
        self.assertEqual(list(program.trail(("c", (12,)), events)), states)

    def test_by_name(self):
        events = [("pay", 1), ("pay", 2)]
        self.assert_same(cash().run(events=events, state=("on", (1,))), ("on", (4,)))
        self.assert_same(list(cash().trail(events=events, state=("on", (1,)))),
                         [("on", (1,)), ("on", (2,)), ("on", (4,))])

    def test_a_trail_is_a_generator(self):
        trail = cash().trail(("on", (1,)), [("pay", 1)])
        self.assertIs(iter(trail), trail)
        self.assert_same(next(trail), ("on", (1,)))
        self.assert_same(next(trail), ("on", (2,)))
        with self.assertRaises(StopIteration):
            next(trail)
        self.assertEqual(type(trail).__name__, "generator")

    def test_trails_are_independent(self):
        program = cash()
        one = program.trail(("on", (1,)), [("pay", 1)])
        other = program.trail(("on", (5,)), [("pay", 2)])
        self.assert_same([next(one), next(other), next(one), next(other)],
                         [("on", (1,)), ("on", (5,)), ("on", (2,)), ("on", (7,))])


class RunsRefused(Checks):
    def refuse(self, name, told, program, state, events):
        """Refused by run, and by a trail when its first item is asked for."""
        self.assert_refused(name, told, program.run, state, events)
        trail = program.trail(state, events)
        self.assert_refused(name, told, next, trail)

    def test_states(self):
        for value in ODD + [["on", (1,)], ("on", [1]), ("on", (1, 2)), ("on", (True,)), ("on", ()), ("pay", (1,))]:
            for events in ([], [("pay", 1)], [None], None, 5):
                self.refuse("InvalidState", [], cash(), value, events)

    def test_a_value_that_is_no_list(self):
        for value in NO_LISTS:
            self.refuse("InvalidEvent", [0], cash(), ("on", (1,)), value)

    def test_the_first_wrong_event(self):
        good = [("pay", 1), ("reset", 0), ("pay", 10 ** 12)]
        for value in ODD + [["pay", 1], ("pay", True), ("pay", 10 ** 12 + 1), ("on", 1), ("pay", 1, 1)]:
            for at in range(4):
                events = good[:at] + [value] + good[at:] + [None]
                self.refuse("InvalidEvent", [at], cash(), ("on", (1,)), events)
                self.refuse("InvalidEvent", [at], cash(), ("on", (1,)), tuple(events))

    def test_a_single_event_is_no_list_of_events(self):
        self.refuse("InvalidEvent", [0], cash(), ("on", (1,)), ("pay", 1))

    def test_a_trail_that_is_not_asked_raises_nothing(self):
        for state, events in [(None, None), (("on", (1,)), None), (("on", (1,)), [("pay", 1), None])]:
            trail = cash().trail(state, events)
            self.assertEqual(type(trail).__name__, "generator")
            trail.close()

    def test_all_events_are_checked_ahead_of_the_first_item(self):
        trail = cash().trail(("on", (1,)), [("pay", 1)] * 50 + [("pay", "1")])
        self.assert_refused("InvalidEvent", [50], next, trail)
