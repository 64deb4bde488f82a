"""Promises 16 and 17: plans, edited stretches and what comes of them; base, slope and the amount for a value."""

from twinbegun.edits import amount_for, edited, outcome, plan, slope
from twinbegun.logs import KeptLog
from twinbegun.programs import Program
from tests.checks import (
    ODD, STEPS, Checks, bare, beyond, cash, chance, drops, keeps, lights, moved, pairs, sample_logs, some_event,
    some_logs, some_state,
)
from tests.plain import plain_edited, plain_plan, plain_row

MOST = 10 ** 12
NO_LISTS = [value for value in ODD if not isinstance(value, (list, tuple))] + ["strike"]
NO_STATES = ODD + [["on", (1, 2)], ("on", [1, 2]), ("on", (1,)), ("on", (1, 2, 3)), ("off", (1, 2)), ("on", (1, True))]
NO_EVENTS = ODD + [("add",), ["add", 1], ("add", 1, 1), ("sub", 1), ("add", True), ("add", MOST + 1), ("add", "1"),
                   ("on", 1), (1, "add"), ("add", (1,)), "add"]
GOOD = ("on", (1, 2))


def some_edits(dice, program, first, last):
    """Random edits of a stretch, in any order."""
    found = []
    for place in range(first, last):
        word = dice.choice(["stay", "stay", "strike", "change"])
        if word == "strike":
            found.append(("strike", place))
        elif word == "change":
            found.append(("change", place, some_event(dice, program)))
    for _ in range(dice.choice([0, 0, 1, 2, 5])):
        found.append(("put", dice.randint(first, last), some_event(dice, program)))
    dice.shuffle(found)
    return found


def behind(program, state, events):
    """The state behind events, by the rules."""
    for event in events:
        state = moved(program, state, event)
    return state


def stretches(seed, most=10):
    """Logs, their programs and events, and a few stretches of each."""
    dice = chance(seed)
    for program, events in [*sample_logs(seed, (0, 1, 2, 9)), *some_logs(seed, 40)]:
        log = KeptLog(program, events)
        places = pairs(len(events))
        for first, last in dice.sample(places, min(most, len(places))):
            yield dice, program, events, log, first, last


class Plans(Checks):
    def both(self, log, first, last, edits):
        return plan(log, first, last, edits), edited(log, first, last, edits)

    def test_no_edits(self):
        log = KeptLog(drops(), STEPS)
        for edits in ([], ()):
            self.assert_same(self.both(log, 0, 5, edits), ([("run", 0, 5)], STEPS))
            self.assert_same(self.both(log, 2, 3, edits), ([("run", 2, 3)], STEPS[2:3]))
            for place in range(6):
                self.assert_same(self.both(log, place, place, edits), ([], []))

    def test_one_strike(self):
        log = KeptLog(drops(), STEPS)
        self.assert_same(plan(log, 0, 5, [("strike", 0)]), [("run", 1, 5)])
        self.assert_same(plan(log, 0, 5, [("strike", 2)]), [("run", 0, 2), ("run", 3, 5)])
        self.assert_same(plan(log, 0, 5, [("strike", 4)]), [("run", 0, 4)])
        self.assert_same(plan(log, 3, 4, [("strike", 3)]), [])
        self.assert_same(edited(log, 0, 5, [("strike", 2)]), STEPS[:2] + STEPS[3:])
        self.assert_same(edited(log, 1, 4, [("strike", 1)]), STEPS[2:4])
        self.assert_same(edited(log, 3, 4, [("strike", 3)]), [])

    def test_one_change(self):
        log = KeptLog(drops(), STEPS)
        fresh = ("add", -9)
        self.assert_same(plan(log, 0, 5, [("change", 0, fresh)]), [("event", fresh), ("run", 1, 5)])
        self.assert_same(plan(log, 0, 5, [("change", 2, fresh)]), [("run", 0, 2), ("event", fresh), ("run", 3, 5)])
        self.assert_same(plan(log, 0, 5, [("change", 4, fresh)]), [("run", 0, 4), ("event", fresh)])
        self.assert_same(edited(log, 1, 4, [("change", 2, fresh)]), [STEPS[1], fresh, STEPS[3]])
        # An event that is changed to what it was does not stay.
        self.assert_same(plan(log, 0, 5, [("change", 2, STEPS[2])]), [("run", 0, 2), ("event", STEPS[2]), ("run", 3, 5)])

    def test_one_put(self):
        log = KeptLog(drops(), STEPS)
        fresh = ("nob", 7)
        self.assert_same(plan(log, 0, 5, [("put", 0, fresh)]), [("event", fresh), ("run", 0, 5)])
        self.assert_same(plan(log, 0, 5, [("put", 3, fresh)]), [("run", 0, 3), ("event", fresh), ("run", 3, 5)])
        self.assert_same(plan(log, 0, 5, [("put", 5, fresh)]), [("run", 0, 5), ("event", fresh)])
        self.assert_same(plan(log, 1, 3, [("put", 3, fresh)]), [("run", 1, 3), ("event", fresh)])
        self.assert_same(plan(log, 2, 2, [("put", 2, fresh)]), [("event", fresh)])
        self.assert_same(edited(log, 1, 3, [("put", 1, fresh)]), [fresh, *STEPS[1:3]])
        self.assert_same(edited(log, 5, 5, [("put", 5, fresh)]), [fresh])

    def test_several_of_each_kind(self):
        log = KeptLog(drops(), STEPS)
        self.assert_same(plan(log, 0, 5, [("strike", 3), ("strike", 1)]), [("run", 0, 1), ("run", 2, 3), ("run", 4, 5)])
        self.assert_same(plan(log, 0, 5, [("strike", 1), ("strike", 2)]), [("run", 0, 1), ("run", 3, 5)])
        one, other = ("add", 11), ("nob", 12)
        self.assert_same(plan(log, 0, 5, [("change", 3, one), ("change", 2, other)]),
                         [("run", 0, 2), ("event", other), ("event", one), ("run", 4, 5)])
        self.assert_same(plan(log, 0, 5, [("put", 4, one), ("put", 1, other)]),
                         [("run", 0, 1), ("event", other), ("run", 1, 4), ("event", one), ("run", 4, 5)])
        self.assert_same(plan(log, 0, 2, [("strike", 0), ("change", 1, one)]), [("event", one)])

    def test_events_that_are_put_at_one_place_stand_in_the_order_of_the_edits(self):
        log = KeptLog(drops(), STEPS)
        events = [("add", 5), ("nob", 1), ("add", -5), ("add", 5)]
        for place in (0, 2, 5):
            edits = [("put", place, event) for event in events]
            self.assert_same(edited(log, 0, 5, edits), STEPS[:place] + events + STEPS[place:])
            edits = [("put", place, event) for event in reversed(events)]
            self.assert_same(edited(log, 0, 5, edits), STEPS[:place] + events[::-1] + STEPS[place:])
        edits = [("put", 4, ("add", 9)), ("put", 1, ("nob", 2)), ("put", 4, ("add", 3)), ("put", 1, ("nob", 1))]
        self.assert_same(edited(log, 0, 5, edits), [
            STEPS[0], ("nob", 2), ("nob", 1), *STEPS[1:4], ("add", 9), ("add", 3), STEPS[4]])

    def test_puts_stand_ahead_of_a_struck_or_changed_event(self):
        log = KeptLog(drops(), STEPS)
        one, other = ("add", 11), ("nob", 12)
        for edits in ([("put", 2, one), ("change", 2, other)], [("change", 2, other), ("put", 2, one)]):
            self.assert_same(plan(log, 0, 5, edits), [("run", 0, 2), ("event", one), ("event", other), ("run", 3, 5)])
        for edits in ([("put", 2, one), ("strike", 2)], [("strike", 2), ("put", 2, one)]):
            self.assert_same(plan(log, 0, 5, edits), [("run", 0, 2), ("event", one), ("run", 3, 5)])
        for edits in ([("put", 3, one), ("strike", 2)], [("strike", 2), ("put", 3, one)]):
            self.assert_same(plan(log, 0, 5, edits), [("run", 0, 2), ("event", one), ("run", 3, 5)])

    def test_by_the_list_edited_by_hand(self):
        for dice, program, events, log, first, last in stretches(161):
            for _ in range(3):
                edits = some_edits(dice, program, first, last)
                before = list(edits)
                found = plan(log, first, last, edits)
                self.assert_same(found, plain_plan(events, first, last, edits))
                self.assert_same(plan(log, first, last, tuple(edits)), found)
                wanted = plain_edited(events, first, last, edits)
                self.assert_same(edited(log, first, last, edits), wanted)
                self.assert_same(edited(log, first, last, tuple(edits)), wanted)
                state = some_state(dice, program)
                self.assert_same(outcome(log, first, last, state, edits), behind(program, state, wanted))
                self.assert_same(outcome(log, first, last, state, tuple(edits)), behind(program, state, wanted))
                self.assert_same((edits, log.events(), log.worked), (before, events, len(events)))

    def test_the_list_that_is_returned_is_new(self):
        log = KeptLog(drops(), STEPS)
        for call in (plan, edited):
            call(log, 0, 5, []).clear()
            self.assertNotEqual(call(log, 0, 5, []), [])
        self.assert_same(log.events(), STEPS)

    def test_more_events_than_a_log_may_have(self):
        events = [("add", at) for at in range(200)]
        log = KeptLog(drops(), events)
        edits = [("put", at // 2, ("add", -at)) for at in range(400)]
        wanted = plain_edited(events, 0, 200, edits)
        self.assertEqual(len(wanted), 600)
        self.assert_same(edited(log, 0, 200, edits), wanted)
        self.assert_same(plan(log, 0, 200, edits), plain_plan(events, 0, 200, edits))
        self.assert_same(outcome(log, 0, 200, GOOD, edits), behind(drops(), GOOD, wanted))
        edits = [("strike", at) for at in reversed(range(200))] + [("put", 0, ("add", 1))] * 200
        self.assert_same(outcome(log, 0, 200, GOOD, edits), behind(drops(), GOOD, [("add", 1)] * 200))


class Outcomes(Checks):
    def test_by_hand(self):
        log = KeptLog(cash(), [("pay", 3), ("reset", 0), ("pay", 2)])
        state = ("on", (5,))
        self.assert_same(outcome(log, 0, 3, state, []), ("on", (2,)))
        self.assert_same(outcome(log, 0, 3, state, [("strike", 1)]), ("on", (10,)))
        self.assert_same(outcome(log, 0, 3, state, [("change", 1, ("pay", -8))]), ("on", (2,)))
        self.assert_same(outcome(log, 0, 3, state, [("put", 3, ("reset", 0))]), ("on", (0,)))
        self.assert_same(outcome(log, 0, 3, state, [("put", 2, ("pay", 40)), ("strike", 2)]), ("on", (40,)))
        self.assert_same(outcome(log, 3, 3, state, []), state)
        self.assert_same(outcome(log, 3, 3, state, [("put", 3, ("pay", 1)), ("put", 3, ("pay", 1))]), ("on", (7,)))

    def test_edits_that_lead_to_another_mode(self):
        log = KeptLog(bare(), [("go", 0), ("go", 0), ("go", 0)])
        self.assert_same(outcome(log, 0, 3, ("a", ()), [("strike", 2)]), ("c", ()))
        self.assert_same(outcome(log, 0, 3, ("a", ()), [("put", 3, ("back", 0))]), ("a", ()))
        self.assert_same(outcome(log, 0, 3, ("a", ()), [("put", 1, ("back", 0)), ("strike", 2)]), ("c", ()))

    def test_a_log_that_was_changed_in_between(self):
        log = KeptLog(cash(), [("pay", 3), ("reset", 0)])
        before = plan(log, 0, 2, [("strike", 1)])
        log.cut(1)
        log.put(("pay", 4), ("pay", 5))
        self.assert_same(before, [("run", 0, 1)])
        self.assert_same(plan(log, 0, 3, [("strike", 1)]), [("run", 0, 1), ("run", 2, 3)])
        self.assert_same(edited(log, 0, 3, [("strike", 1)]), [("pay", 3), ("pay", 5)])
        self.assert_same(outcome(log, 0, 3, ("on", (0,)), [("strike", 1)]), ("on", (8,)))
        self.assert_same(slope(log, 0, 3, ("on", (0,)), 1), ((1, 8), (0, 1)))
        self.assert_same(amount_for(log, 0, 3, ("on", (0,)), 1, "cash", 9), ("one", 1))
        log.cut(2)
        self.assert_refused("InvalidEdit", [0], plan, log, 0, 2, [("strike", 2)])


class WrongEdits(Checks):
    def refuse(self, index, edits, first=1, last=4):
        log = KeptLog(drops(), STEPS)
        for call in (plan, edited):
            self.assert_refused("InvalidEdit", [index], call, log, first, last, edits)
        self.assert_refused("InvalidEdit", [index], outcome, log, first, last, GOOD, edits)
        self.assert_same((log.events(), log.worked), (STEPS, 5))

    def test_values_that_are_no_lists(self):
        for value in NO_LISTS:
            self.refuse(0, value)

    def test_values_that_are_no_edits(self):
        event = ("add", 1)
        wrong = ODD + [
            ("strike",), ("strike", 2, event), ("strike", 2, None), ["strike", 2], ("STRIKE", 2), ("stri", 2), (2, "strike"),
            ("change", 2), ("change",), ("change", 2, event, event), ["change", 2, event], ("change", event, 2),
            ("put", 2), ("put",), ("put", 2, event, event), ["put", 2, event], ("put", event, 2), ("run", 1, 2),
            ("event", event), ("run", 2, event), ("cut", 2), ("strike", (2,)), ("strike", [2]), ("put", [2], event),
            ("change", "2", event), ("strike", None), (["strike"], 2), ("", 2), (None, 2), (True, 2, event),
        ]
        for value in wrong:
            self.refuse(0, [value])
            self.refuse(0, (value,))
            self.refuse(1, [("put", 2, event), value])
            self.refuse(2, [("put", 4, event), ("strike", 3), value, value, ("strike", 2)])

    def test_places(self):
        event = ("add", 1)
        for value in beyond(1, 3):
            self.refuse(0, [("strike", value)])
            self.refuse(0, [("change", value, event)])
        for value in beyond(1, 4):
            self.refuse(0, [("put", value, event)])
        for value in (1, 3):
            log = KeptLog(drops(), STEPS)
            self.assert_same(len(edited(log, 1, 4, [("strike", value)])), 2)
            self.assert_same(len(edited(log, 1, 4, [("change", value, event)])), 3)
            self.assert_same(len(edited(log, 1, 4, [("put", value + 1, event), ("put", value, event)])), 5)
        self.refuse(0, [("strike", True)])
        self.refuse(0, [("put", True, event)])
        self.refuse(0, [("change", True, event)])

    def test_the_empty_stretch(self):
        for place in (0, 3, 5):
            for other in (place - 1, place, place + 1):
                self.refuse(0, [("strike", other)], place, place)
                self.refuse(0, [("change", other, ("add", 1))], place, place)
                if other != place:
                    self.refuse(0, [("put", other, ("add", 1))], place, place)

    def test_events(self):
        for value in NO_EVENTS:
            self.refuse(0, [("change", 2, value)])
            self.refuse(1, [("strike", 1), ("put", 2, value)])
        for amount in (MOST, -MOST, 0):
            log = KeptLog(drops(), STEPS)
            self.assert_same(edited(log, 2, 2, [("put", 2, ("add", amount))]), [("add", amount)])
        for amount in (MOST + 1, -MOST - 1):
            self.refuse(0, [("put", 2, ("add", amount))])
            self.refuse(0, [("change", 2, ("add", amount))])

    def test_an_event_that_is_struck_or_changed_twice(self):
        event = ("add", 1)
        for one in (("strike", 2), ("change", 2, event), ("change", 2, STEPS[2])):
            for other in (("strike", 2), ("change", 2, event), ("change", 2, ("nob", 5))):
                self.refuse(1, [one, other])
                self.refuse(2, [one, ("strike", 1), other, other])
                self.refuse(3, [("put", 2, event), one, ("put", 2, event), other])

    def test_the_first_one_counts(self):
        self.refuse(1, [("strike", 2), ("strike", 2), None])
        self.refuse(1, [("strike", 2), None, ("strike", 2)])
        self.refuse(0, [None, ("strike", 2), ("strike", 2)])
        self.refuse(2, [("strike", 2), ("put", 2, ("add", 1)), ("strike", 9), ("strike", 2)])


class Slopes(Checks):
    def test_by_hand(self):
        log = KeptLog(cash(), [("pay", 3), ("reset", 0), ("pay", 2)])
        self.assert_same(slope(log, 0, 3, ("on", (5,)), 2), ((1, 0), (0, 1)))
        self.assert_same(slope(log, 0, 3, ("on", (5,)), 0), ((1, 2), (0, 0)))
        self.assert_same(slope(log, 0, 1, ("on", (5,)), 0), ((1, 5), (0, 1)))
        self.assert_same(slope(log, 0, 3, ("on", (5,)), 1), ((1, 2), (0, 0)))
        self.assert_same(slope(log, 2, 3, ("on", (5,)), 2), ((1, 5), (0, 1)))

    def test_by_the_rules_event_by_event(self):
        for dice, program, events, log, first, last in stretches(171):
            for place in range(first, last):
                state = some_state(dice, program)
                base, rise = slope(log, first, last, state, place)
                self.assertEqual([type(row) for row in (base, rise)], [tuple, tuple])
                for amount in (0, 1, -1, 7, MOST, -MOST, events[place][1]):
                    changed = [*events[first:place], (events[place][0], amount), *events[place + 1:last]]
                    wanted = plain_row(program, behind(program, state, changed))
                    self.assert_same(tuple(a + amount * b for a, b in zip(base, rise)), wanted)
                self.assert_same((log.events(), log.worked), (events, len(events)))

    def test_amounts_of_an_event_with_a_great_factor(self):
        program = lights()
        log = KeptLog(program, [("on", 5), ("swap", 0), ("sum", 7)])
        for state in (("off", (1, 2, 3)), ("on", (10 ** 30, -4, 5))):
            for place in range(3):
                base, rise = slope(log, 0, 3, state, place)
                for amount in (-MOST, MOST):
                    changed = log.events()
                    changed[place] = (changed[place][0], amount)
                    found = tuple(a + amount * b for a, b in zip(base, rise))
                    self.assert_same(found, plain_row(program, behind(program, state, changed)))

    def test_wrong_ranges_states_and_places(self):
        log = KeptLog(drops(), STEPS)
        for value in beyond(1, 3):
            self.assert_refused("InvalidPlace", [value], slope, log, 1, 4, GOOD, value)
        for value in (0, 3, 5, None):
            self.assert_refused("InvalidPlace", [value], slope, log, 3, 3, GOOD, value)
        for value in NO_STATES:
            self.assert_refused("InvalidState", [], slope, log, 1, 4, value, 9)
            self.assert_refused("InvalidState", [], slope, log, 1, 4, value, 2)
            self.assert_refused("InvalidState", [], slope, log, 2, 2, value, 2)
        for value in beyond(0, 5):
            self.assert_refused("InvalidRange", [value, 5], slope, log, value, 5, None, None)
            self.assert_refused("InvalidRange", [0, value], slope, log, 0, value, GOOD, 2)
        self.assert_refused("InvalidRange", [3, 2], slope, log, 3, 2, GOOD, 2)


class Amounts(Checks):
    def test_by_hand(self):
        log = KeptLog(cash(), [("pay", 3), ("reset", 0), ("pay", 2)])
        state = ("on", (5,))
        self.assert_same(amount_for(log, 0, 3, state, 2, "cash", 7), ("one", 7))
        self.assert_same(amount_for(log, 0, 3, state, 0, "cash", 2), ("every",))
        self.assert_same(amount_for(log, 0, 3, state, 0, "cash", 3), None)
        self.assert_same(amount_for(log, 0, 3, state, 1, "cash", 2), ("every",))
        self.assert_same(amount_for(log, 0, 1, state, 0, "cash", 5), ("one", 0))
        self.assert_same(amount_for(log, 0, 1, state, 0, "cash", 4), ("one", -1))

    def test_amounts_that_no_event_can_have(self):
        log = KeptLog(cash(), [("pay", 3), ("pay", 2)])
        state = ("on", (0,))
        for amount in (MOST, -MOST, MOST + 1, -MOST - 1, 10 ** 599):
            self.assert_same(amount_for(log, 0, 2, state, 0, "cash", amount + 2), ("one", amount))
            self.assert_same(amount_for(log, 0, 2, state, 1, "cash", amount + 3), ("one", amount))

    def test_no_integer_has_the_value(self):
        program = Program(["on"], ["a", "b"], ["go"], [
            ("on", "go", "on", (("a", (("a", 1), ("amount", -6))), ("b", (("a", 2), ("b", 1))))),
        ])
        log = KeptLog(program, [("go", 1), ("go", 2)])
        state = ("on", (10, 0))
        # a is 10 - 6 * x - 12 behind both, and b is 20 + 2 * (10 - 6 * x).
        for value in range(-20, 21):
            wanted = ("one", (-2 - value) // 6) if (-2 - value) % 6 == 0 else None
            self.assert_same(amount_for(log, 0, 2, state, 0, "a", value), wanted)
            wanted = ("one", (40 - value) // 12) if (40 - value) % 12 == 0 else None
            self.assert_same(amount_for(log, 0, 2, state, 0, "b", value), wanted)
            wanted = ("every",) if value == 28 else None
            self.assert_same(amount_for(log, 0, 2, state, 1, "b", value), wanted)

    def test_registers_of_other_modes(self):
        program = lights()
        log = KeptLog(program, [("on", 5), ("swap", 0)])
        state = ("off", (1, 2, 3))
        self.assert_same(behind(program, state, log.events()), ("on", (2, 1, 5003)))
        self.assert_same(amount_for(log, 0, 2, state, 0, "on", 7003), ("one", 7))
        self.assert_same(amount_for(log, 0, 2, state, 0, "on", 7004), None)
        self.assert_same(amount_for(log, 0, 2, state, 0, "a", 2), ("every",))
        self.assert_same(amount_for(log, 0, 2, state, 0, "b", 2), None)

    def test_by_the_rules_event_by_event(self):
        met = {}
        for dice, program, events, log, first, last in stretches(172, 4):
            for place in range(first, last):
                state = some_state(dice, program)
                wanted = dice.choice([0, 1, -3, events[place][1], MOST, -MOST])
                ends = [self.end(program, state, events, first, place, last, amount) for amount in (wanted, 0, 1)]
                for at, target in enumerate(program.registers()):
                    there, base, top = [end[1][at] for end in ends]
                    for value in (there, there + 1, base, dice.randint(-99, 99), 10 ** 40):
                        found = amount_for(log, first, last, state, place, target, value)
                        if found is None:
                            self.assertTrue(top == base != value or (value - base) % (top - base) != 0)
                        elif found == ("every",):
                            self.assertTrue(top == base == value)
                        else:
                            self.assert_same(found, ("one", found[1]))
                            self.assertIs(type(found[1]), int)
                            self.assertNotEqual(top, base)
                            self.assertEqual(base + found[1] * (top - base), value)
                            if -MOST <= found[1] <= MOST:
                                end = self.end(program, state, events, first, place, last, found[1])
                                self.assertEqual(end[1][at], value)
                        met[found and found[0]] = met.get(found and found[0], 0) + 1
        self.assertEqual(set(met), {None, "every", "one"})
        self.assertGreater(min(met.values()), 50)

    def end(self, program, state, events, first, place, last, amount):
        """The state at the end if the event has this amount."""
        changed = [*events[first:place], (events[place][0], amount), *events[place + 1:last]]
        return behind(program, state, changed)

    def test_programs_that_keep_all(self):
        log = KeptLog(keeps(), [("mix", 3), ("swap", 1), ("mix", -2), ("go", 9), ("mix", 5)])
        state = ("on", (11, -13))
        for place in (0, 2):
            for amount in (0, 4, -MOST, 5 * MOST):
                base, rise = slope(log, 0, 5, state, place)
                for at, target in enumerate(("a", "b"), start=4):
                    found = amount_for(log, 0, 5, state, place, target, base[at] + amount * rise[at])
                    self.assert_same(found, ("one", amount) if rise[at] else ("every",))

    def test_the_errors_in_their_order(self):
        log = KeptLog(drops(), STEPS)
        for value in ODD + ["c", "on", "add", ["a"], ("a",)]:
            self.assert_refused("UnknownName", [value], amount_for, log, 1, 4, GOOD, 2, value, 0)
        for value in beyond(1, 3):
            self.assert_refused("InvalidPlace", [value], amount_for, log, 1, 4, GOOD, value, "a", 0)
            self.assert_refused("InvalidPlace", [value], amount_for, log, 1, 4, GOOD, value, "c", 0)
        for value in NO_STATES:
            self.assert_refused("InvalidState", [], amount_for, log, 1, 4, value, 2, "a", 0)
            self.assert_refused("InvalidState", [], amount_for, log, 1, 4, value, 7, None, 0)
        for value in beyond(0, 5):
            self.assert_refused("InvalidRange", [value, 5], amount_for, log, value, 5, GOOD, 2, "a", 0)
            self.assert_refused("InvalidRange", [0, value], amount_for, log, 0, value, None, None, None, 0)
        self.assert_refused("InvalidRange", [3, 2], amount_for, log, 3, 2, None, None, None, 0)


class Order(Checks):
    def test_ranges_come_first(self):
        log = KeptLog(drops(), STEPS)
        for value in beyond(0, 5):
            for call in (plan, edited):
                self.assert_refused("InvalidRange", [value, 5], call, log, value, 5, [])
                self.assert_refused("InvalidRange", [0, value], call, log, 0, value, None)
            self.assert_refused("InvalidRange", [value, 5], outcome, log, value, 5, GOOD, [])
            self.assert_refused("InvalidRange", [0, value], outcome, log, 0, value, None, None)
        for call in (plan, edited):
            self.assert_refused("InvalidRange", [3, 2], call, log, 3, 2, [None])
        self.assert_refused("InvalidRange", [3, 2], outcome, log, 3, 2, None, [None])

    def test_states_come_ahead_of_edits(self):
        log = KeptLog(drops(), STEPS)
        for value in NO_STATES:
            for edits in ([], None, [None], [("strike", 2)]):
                self.assert_refused("InvalidState", [], outcome, log, 0, 5, value, edits)
        self.assert_refused("InvalidEdit", [0], outcome, log, 0, 5, GOOD, None)
        self.assert_refused("InvalidEdit", [1], outcome, log, 0, 5, GOOD, [("strike", 1), 5])

    def test_by_name(self):
        log = KeptLog(cash(), [("pay", 3), ("reset", 0), ("pay", 2)])
        edits = [("strike", 1)]
        self.assert_same(plan(edits=edits, last=3, first=0, log=log), [("run", 0, 1), ("run", 2, 3)])
        self.assert_same(edited(last=3, edits=edits, first=1, log=log), [("pay", 2)])
        self.assert_same(outcome(edits=edits, state=("on", (5,)), last=3, first=0, log=log), ("on", (10,)))
        self.assert_same(slope(place=0, state=("on", (5,)), last=1, first=0, log=log), ((1, 5), (0, 1)))
        found = amount_for(value=7, target="cash", place=2, state=("on", (5,)), last=3, first=0, log=log)
        self.assert_same(found, ("one", 7))
        self.assert_refused("InvalidRange", [5, 3], plan, edits=edits, last=3, first=5, log=log)
