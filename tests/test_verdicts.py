"""Promise 19: the papers of a comparison, what they tell, and when they hold."""

from twinbegun.comparing import Alike, Apart, Comparison, compare
from twinbegun.probes import Probe
from twinbegun.programs import Program
from tests.checks import ODD, Checks, bare, cash, chance, lights, moved, nested, some_events
from tests.plain import Pair
from tests.test_comparing import alike_pairs, apart_pairs, line, ring
from tests.test_probes import some_probes

MOST = 10 ** 12
NO_EVENTS = ODD + [("pay",), ["pay", 1], ("pay", 1, 1), ("on", 1), ("pay", True), ("pay", MOST + 1), (1, "pay"), "pay"]


def purse(look=(("cash", 1),), start=0):
    """A probe of the program of the examples."""
    return Probe(cash(), ("on", (start,)), [("on", tuple(look))])


def turned():
    """The same with the signs in another order, and the modes and registers with other names."""
    rules = [("in", "reset", "in", (("money", ()),)), ("in", "pay", "in", (("money", (("amount", 1), ("money", 1))),))]
    return Probe(Program(["in"], ["money"], ["reset", "pay"], rules), ("in", (0,)), [("in", (("money", 1),))])


def listed(value):
    """A list in the place of a list or a tuple."""
    return list(value) if type(value) in (list, tuple) else value


ANY = ODD + [[[("pay", 1)]], ([("pay", 1)],), ((("pay", 1),),), [[], ()], "abc", [["pay", 1]], [5, [6]], ([],), [[[]]]]


class Told(Checks):
    def test_a_comparison(self):
        one, other = purse(), turned()
        for found in (Comparison(one, other), Comparison(one, one), Comparison(other=other, one=one)):
            self.assert_same((found.told(), found.holds(), bool(found), repr(found)),
                             ("open", False, False, "Comparison(open)"))
            self.assertIs(found.one, one)
            self.assertIn(found.other, (one, other))

    def test_probes_and_words(self):
        one, other = purse(), ring(2, [1])
        for value in ANY:
            for found in (Alike(one, other, value), Alike(logs=value, other=other, one=one)):
                self.assert_same((found.told(), bool(found), repr(found)), ("alike", True, "Alike(alike)"))
                self.assertIs(found.one, one)
                self.assertIs(found.other, other)
            for found in (Apart(one, other, value), Apart(events=value, other=other, one=one)):
                self.assert_same((found.told(), bool(found), repr(found)), ("apart", False, "Apart(apart)"))
                self.assertIs(found.one, one)
                self.assertIs(found.other, other)

    def test_both_are_comparisons(self):
        self.assertEqual((Alike.__bases__, Apart.__bases__), ((Comparison,), (Comparison,)))
        self.assertEqual((issubclass(Alike, Apart), issubclass(Apart, Alike)), (False, False))

    def test_they_never_change(self):
        for found in (Comparison(purse(), turned()), Alike(purse(), turned(), []), Apart(purse(), turned(), [])):
            for name in ("one", "other"):
                with self.assertRaises(AttributeError):
                    setattr(found, name, purse())


class Lists(Checks):
    def test_what_logs_returns(self):
        for value in ANY:
            found = Alike(purse(), purse(), value).logs()
            if type(value) in (list, tuple):
                self.assert_same(found, [listed(item) for item in value])
            else:
                self.assert_same(found, value)
                self.assertIs(found, value)

    def test_what_events_returns(self):
        for value in ANY:
            found = Apart(purse(), purse(), value).events()
            self.assert_same(found, listed(value))
            if type(value) not in (list, tuple):
                self.assertIs(found, value)

    def test_lists_are_copied(self):
        inner = [("pay", 1)]
        logs = [inner, (("pay", 2),)]
        found = Alike(purse(), purse(), logs)
        inner.append(("pay", 3))
        logs.append([])
        self.assert_same(found.logs(), [[("pay", 1)], [("pay", 2)]])
        found.logs().append(None)
        found.logs()[0].append(None)
        found.logs()[1].clear()
        self.assert_same(found.logs(), [[("pay", 1)], [("pay", 2)]])
        inner = [("pay", 1)]
        found = Alike(purse(), purse(), (inner,))
        inner.clear()
        self.assert_same(found.logs(), [[("pay", 1)]])
        events = [("pay", 1)]
        found = Apart(purse(), purse(), events)
        events.append(("pay", 3))
        self.assert_same(found.events(), [("pay", 1)])
        found.events().clear()
        self.assert_same(found.events(), [("pay", 1)])

    def test_lists_within_lists_are_copied(self):
        deep = [["pay"]]
        one, other = Alike(purse(), purse(), [deep, 5]), Apart(purse(), purse(), deep)
        deep[0].append(1)
        self.assert_same((one.logs(), other.events()), ([[["pay"]], 5], [["pay"]]))
        one.logs()[0][0].append(2)
        other.events()[0].append(2)
        self.assert_same((one.logs(), other.events()), ([[["pay"]], 5], [["pay"]]))

    def test_the_lists_of_compare_are_new_each_time(self):
        found = compare(purse(), turned())
        before = found.logs()
        found.logs()[0].append(("pay", 1))
        found.logs().clear()
        self.assert_same(found.logs(), before)
        found = compare(purse(), purse((("cash", 2),)))
        before = found.events()
        found.events().clear()
        self.assert_same((found.events(), found.holds()), (before, True))


class AlikeHolds(Checks):
    def check(self, one, other, logs, wanted=None):
        """The paper holds as the definition says, which is as wanted, if that is told."""
        held = Pair(one, other, moved).alike_holds(logs)
        self.assertIs(Alike(one, other, logs).holds(), held, logs)
        if wanted is not None:
            self.assertIs(held, wanted, logs)
        return held

    def test_by_hand(self):
        one, other = purse(), turned()
        self.check(one, other, [[], [("pay", 1)]], True)
        self.check(one, other, [[], [("pay", -5)]], True)
        self.check(one, other, ((), (("reset", 3), ("pay", MOST))), True)
        self.check(one, other, [[("pay", 1)], [("pay", 2)]], True)
        self.check(one, other, [[("pay", 3)], [("reset", 2)], [("pay", -MOST)], [], []], True)
        for logs in ([], (), [[]], [[], []], [[("pay", 1)]], [[], [("pay", 0)]], [[], [("reset", 1)]]):
            self.check(one, other, logs, False)

    def test_the_empty_list_is_no_sum(self):
        # Both probes go on without an end, and the list behind one event leads on to itself alone.
        one = Probe(bare(), ("a", ()), [])
        logs = [[("go", 1)], [("go", 1), ("go", 1)], [("go", 1)] * 3, [("go", 1)] * 3 + [("back", 0)]]
        self.check(one, one, logs, True)
        program = Program(["a", "b"], [], ["go"], [("a", "go", "b", ())])
        one = Probe(program, ("a", ()), [("a", (("one", 1),))])
        other = Probe(program, ("a", ()), [])
        self.check(one, other, [[("go", 0)]], False)
        self.check(one, one, [[("go", 0)]], False)
        self.check(one, one, [[], [("go", 0)]], True)
        self.check(one, other, [[], [("go", 0)]], False)

    def test_the_values_of_each_list(self):
        one, other = purse(), purse(start=1)
        self.check(one, other, [[], [("pay", 1)], [("reset", 1)]], False)
        self.check(other, one, [[("reset", 1)], [("reset", 1), ("pay", 1)], [("pay", 1)]], False)
        # The one register forgets its start, the look does not tell of it: the value of the list left out would.
        self.check(one, purse((("cash", 2),)), [[], [("pay", 1)]], False)
        self.check(one, purse((("cash", 2),)), [[], [("reset", 1)]], False)

    def test_each_sign_and_both_amounts_lead_on(self):
        # Which of the amounts 0 and 1 leads to a row that the empty list does not tell of.
        changes = {
            "none": (("r", (("r", 1),)),),
            "first": (("r", (("r", 1), ("amount", -1), ("one", 1))),),
            "second": (("r", (("r", 1), ("amount", 1))),),
            "both": (("r", (("r", 1), ("one", 1))),),
        }
        for which, change in changes.items():
            for signs in (["y", "z"], ["z", "y"], ["x", "y", "z"], ["z", "y", "x"]):
                program = Program(["m"], ["r"], signs, [("m", "y", "m", change)])
                one = Probe(program, ("m", (0,)), [("m", (("r", 1),))])
                self.check(one, one, [[]], which == "none")
                self.check(one, one, [[], [("y", 0), ("y", 1)]], True)

    def test_what_compare_finds_with_lists_left_out_or_put_twice(self):
        dice = chance(221)
        met = {True: 0, False: 0}
        for why, one, other in alike_pairs():
            logs = compare(one, other).logs()
            self.check(one, other, logs, True)
            self.check(one, other, tuple(tuple(log) for log in logs), True)
            self.check(one, other, logs[::-1] + logs, True)
            # The lists are as few as can be, so that each one is needed.
            left_out = [logs[:at] + logs[at + 1:] for at in range(len(logs))]
            for some in [*left_out, [*logs, *some_lists(dice, one)], [*left_out[0], *some_lists(dice, one)]]:
                met[self.check(one, other, some)] += 1
        self.assertGreater(min(met.values()), 40)

    def test_of_probes_that_are_not_alike(self):
        dice = chance(222)
        for one, other, size in apart_pairs():
            for mine, theirs in ((one, other), (other, one)):
                for logs in ([], [[]], compare(one, one).logs(), compare(other, other).logs(), some_lists(dice, one)):
                    self.check(mine, theirs, logs, False)

    def test_random_lists(self):
        dice = chance(223)
        for program, start, look in some_probes(224, 40):
            one, other = Probe(program, start, look), Probe(program, start, look[::-1])
            for _ in range(3):
                self.check(one, other, some_lists(dice, one))

    def test_values_of_other_kinds(self):
        one, other = purse(), turned()
        for value in ANY:
            if value not in ([[], ()],):
                self.check(one, other, value, False)
        good = [[], [("pay", 1)]]
        for value in ODD + ["pay", ("pay", 1), ["pay", 1]]:
            if value not in ([], ()):
                self.check(one, other, [*good, value], False)
                self.check(one, other, [value, *good], False)

    def test_values_that_are_no_events(self):
        one, other = purse(), turned()
        for value in NO_EVENTS:
            for log in ([value], [("pay", 1), value], (value, ("pay", 1))):
                self.check(one, other, [[], [("pay", 1)], log], False)
                self.check(one, other, [log, [], [("pay", 1)]], False)

    def test_probes_with_other_signs(self):
        one = Probe(Program.idle("a"), ("on", ()), [])
        self.check(one, one, [[]], True)
        for signs in (["b"], ["a", "b"], ["b", "a"]):
            other = Probe(Program.idle(*signs), ("on", ()), [])
            self.check(one, other, [[]], False)
            self.check(other, one, [[]], False)
            self.check(one, other, [[], [("a", 1)], [("b", 1)]], False)
        one, other = Probe(Program.idle("a", "b"), ("on", ()), []), Probe(Program.idle("b", "a"), ("on", ()), [])
        self.check(one, other, [[]], True)

    def test_long_lists(self):
        one, other = purse(), turned()
        self.check(one, other, [[("pay", at)] * 30 for at in range(60)], True)
        self.check(one, other, [[("pay", 7), ("reset", at)] * 30 for at in range(60)], False)
        self.assertIs(Alike(one, other, [[("pay", at)] * 400 for at in range(20)]).holds(), True)


def some_lists(dice, probe):
    """Random lists of events."""
    return [some_events(dice, probe.program, 4) for _ in range(dice.randint(1, 6))]


class ApartHolds(Checks):
    def check(self, one, other, events, wanted=None):
        """The paper holds as the definition says, which is as wanted, if that is told."""
        held = Pair(one, other, moved).apart_holds(events)
        self.assertIs(Apart(one, other, events).holds(), held, events)
        if wanted is not None:
            self.assertIs(held, wanted, events)

    def test_by_hand(self):
        one, other = purse(), purse((("cash", 2),))
        for events in ([("pay", 1)], [("pay", -MOST)], (("reset", 1), ("pay", 3)), [("pay", 1)] * 400):
            self.check(one, other, events, True)
        for events in ([], (), [("pay", 0)], [("pay", 1), ("reset", 1)], [("pay", 1), ("pay", -1)]):
            self.check(one, other, events, False)
        self.check(one, purse(start=1), [], True)
        self.check(line(4), ring(4, [3]), [("go", 5)] * 7, True)
        self.check(line(4), ring(4, [3]), [("go", 5)] * 6, False)

    def test_random_lists(self):
        dice = chance(225)
        for one, other, size in apart_pairs():
            self.check(one, other, compare(one, other).events(), True)
            self.check(other, one, tuple(compare(one, other).events()), True)
            for _ in range(9):
                self.check(one, other, some_events(dice, one.program))
        for _, one, other in alike_pairs():
            for _ in range(3):
                self.check(one, other, some_events(dice, one.program), False)

    def test_values_of_other_kinds(self):
        one, other = purse(), purse(start=1)
        for value in ANY:
            self.check(one, other, value, value in ([], ()))
        for value in NO_EVENTS:
            self.check(one, other, [value], False)
            self.check(one, other, [("pay", 1), value], False)
            self.check(one, other, (value, ("pay", 1)), False)

    def test_probes_with_other_signs(self):
        one = Probe(Program.idle("a"), ("on", ()), [])
        same = Probe(Program.idle("a"), ("on", ()), [("on", (("one", 1),))])
        self.check(one, same, [("a", 1)], True)
        for signs in (["b"], ["a", "b"]):
            other = Probe(Program.idle(*signs), ("on", ()), same.look())
            for events in ([], [("a", 1)], [("b", 1)]):
                self.check(one, other, events, False)
                self.check(other, one, events, False)
        one = Probe(Program.idle("b", "a"), ("on", ()), [])
        self.check(one, Probe(Program.idle("a", "b"), ("on", ()), same.look()), [("a", 1), ("b", 2)], True)

    def test_deep_values(self):
        one, other = purse(), purse(start=1)
        self.check(one, other, nested(list, 10, ("pay", 1)), False)
        self.assertIs(Alike(one, one, nested(tuple, 10, [])).holds(), False)

    def test_wide_programs(self):
        one = Probe(lights(), ("on", (1, 2, 3)), [("on", (("a", 1),))])
        other = Probe(lights(), ("on", (1, 2, 3)), [("on", (("b", 1),))])
        self.check(one, other, [], True)
        self.check(one, other, [("off", 1)], False)
        self.check(one, other, [("swap", 1)], True)
