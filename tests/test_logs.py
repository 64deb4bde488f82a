"""KeptLog: its events, its length, its items, equality, worked, and the calls that change a log or make another one."""

from twinbegun.logs import MOST_EVENTS, KeptLog
from twinbegun.programs import Program
from tests.checks import ODD, Checks, beyond, cash, drops, lights, sample_logs, samples
from tests.plain import Stretches

PAY = ("pay", 3)
GOOD = [PAY, ("reset", 0), ("pay", -(10 ** 12)), ("pay", 10 ** 12)]
NO_LISTS = [value for value in ODD if not isinstance(value, (list, tuple))] + ["pay", "log"]
NO_EVENTS = ODD + [["pay", 1], ("pay", True), ("pay", False), ("pay", 10 ** 12 + 1), ("pay", -(10 ** 12) - 1),
                   ("on", 1), ("pay", 1, 1), ("pay",), (PAY,), [PAY], ("pay", "1"), ("pay", None), (1, "pay"), "pay"]


def seen(log):
    """All that a log tells of itself."""
    levels = range(log.program.width + 1)
    heights = [log.height(place) for place in range(len(log) + 1)]
    lots = [[log.kept(place, level) for level in levels] for place in range(1, len(log) + 1)]
    return log.events(), heights, lots, [log.cuts(level) for level in levels], log.worked, repr(log)


class LogChecks(Checks):
    def assert_log(self, log, program, events, worked):
        """The log has these events, and all its tables and cuts are those of the document."""
        plain = Stretches(program, events)
        heights = [plain.height(place) for place in range(plain.size + 1)]
        wanted = (list(events), heights, plain.lots(), plain.cuts, worked, f"KeptLog({len(events)} events)")
        self.assert_same(seen(log), wanted)
        self.assert_same(len(log), len(events))
        self.assertEqual(log.program, program)


class Made(LogChecks):
    def test_events_come_back(self):
        for program, events in sample_logs(41):
            for given in (events, tuple(events)):
                log = KeptLog(program, given)
                self.assert_log(log, program, events, len(events))
                self.assertIs(log.program, program)
                self.assert_same([log[at] for at in range(len(log))], events)

    def test_without_events_and_by_name(self):
        for program in samples():
            for log in (KeptLog(program), KeptLog(program=program), KeptLog(events=(), program=program)):
                self.assert_log(log, program, [], 0)
        self.assert_same(KeptLog(events=GOOD, program=cash()).events(), GOOD)

    def test_the_number_is_200(self):
        self.assert_same(MOST_EVENTS, 200)

    def test_200_events(self):
        log = KeptLog(cash(), GOOD * 50)
        self.assert_same((len(log), log.worked, repr(log)), (200, 200, "KeptLog(200 events)"))
        self.assert_same(log.events(), GOOD * 50)

    def test_lists_changed_behind_the_call(self):
        events = list(GOOD)
        log = KeptLog(cash(), events)
        before = seen(log)
        events.reverse()
        events.append(PAY)
        self.assert_same(seen(log), before)
        more = [PAY, PAY]
        other = log.with_events(more)
        self.assert_same(more, [PAY, PAY])
        more.clear()
        self.assert_same(other.events(), GOOD + [PAY, PAY])
        self.assert_same(events[-1], PAY)

    def test_returned_lists_are_new(self):
        log = KeptLog(drops(), [("add", 2), ("noa", 0), ("add", 1)])
        before = seen(log)
        for ask in (log.events, lambda: log.cuts(0), lambda: log.cuts(1), lambda: log.cuts(3)):
            found = ask()
            self.assertIs(type(found), list)
            found.append(7)
            self.assertIsNot(ask(), found)
            found.clear()
            self.assert_same(seen(log), before)

    def test_wrong_events(self):
        for value in NO_EVENTS:
            for at in range(4):
                events = GOOD[:at] + [value] + GOOD[at:] + [None]
                self.assert_refused("InvalidEvent", [at], KeptLog, cash(), events)
                self.assert_refused("InvalidEvent", [at], KeptLog, cash(), tuple(events))

    def test_a_value_that_is_no_list(self):
        for value in NO_LISTS:
            self.assert_refused("InvalidEvent", [0], KeptLog, cash(), value)
        self.assert_refused("InvalidEvent", [0], KeptLog, cash(), PAY)

    def test_201_events(self):
        self.assert_refused("Full", [200], KeptLog, cash(), [PAY] * 201)
        self.assert_refused("Full", [200], KeptLog, cash(), (PAY,) * 202)
        self.assert_refused("Full", [200], KeptLog, cash(), events=[PAY] * 400)

    def test_wrong_events_ahead_of_full(self):
        self.assert_refused("InvalidEvent", [200], KeptLog, cash(), [PAY] * 200 + [None])
        self.assert_refused("InvalidEvent", [201], KeptLog, cash(), [PAY] * 201 + [("pay", True)])


class Items(Checks):
    def test_each_place(self):
        log = KeptLog(cash(), GOOD)
        for at, event in enumerate(GOOD):
            self.assert_same(log[at], event)

    def test_other_values(self):
        for many in (0, 1, 4):
            log = KeptLog(cash(), GOOD[:many])
            for value in beyond(0, many - 1):
                self.assert_refused("InvalidPlace", [value], lambda given: log[given], value)

    def test_no_item_from_behind(self):
        log = KeptLog(cash(), GOOD)
        for value in (-1, -4, 4, 5, True, False):
            self.assert_refused("InvalidPlace", [value], lambda given: log[given], value)

    def test_behind_changes(self):
        log = KeptLog(cash(), GOOD)
        log.cut(2)
        self.assert_refused("InvalidPlace", [2], lambda given: log[given], 2)
        log.put(("pay", 8))
        self.assert_same(log[2], ("pay", 8))


class Equality(Checks):
    def test_equal_programs_and_events(self):
        for program, events in sample_logs(42):
            one = KeptLog(program, events)
            same = Program(program.modes(), program.registers(), program.signs(), program.rules())
            other = KeptLog(same, tuple(events))
            self.assertIs(one == other, True)
            self.assertIs(one != other, False)
            self.assertIs(one == one, True)

    def test_however_they_came_to_be(self):
        one = KeptLog(cash(), GOOD)
        other = KeptLog(cash())
        other.put(*GOOD, PAY)
        other.cut(4)
        longer = [KeptLog(cash(), GOOD[:many]).with_events(GOOD[many:]) for many in range(5)]
        for log in [other, one.branch(), *longer]:
            self.assertIs(one == log, True)
            self.assertIs(one != log, False)

    def test_other_events(self):
        one = KeptLog(cash(), GOOD)
        others = [GOOD[:-1], GOOD + [PAY], GOOD[::-1], [("pay", 4)] + GOOD[1:], [("reset", 3)] + GOOD[1:], []]
        for events in others:
            self.assertIs(one == KeptLog(cash(), events), False)
            self.assertIs(one != KeptLog(cash(), events), True)

    def test_other_programs(self):
        program = cash()
        others = [
            Program(["on"], ["cash"], ["reset", "pay"], program.rules()),
            Program(["on"], ["cash"], ["pay", "reset"], program.rules()[::-1]),
            Program(["on"], ["cash"], ["pay", "reset"], program.rules()[:1]),
            Program(["off"], ["cash"], ["pay", "reset"]),
        ]
        for other in others:
            for events in ([], GOOD):
                self.assertIs(KeptLog(program, events) == KeptLog(other, events), False)
                self.assertIs(KeptLog(program, events) != KeptLog(other, events), True)

    def test_other_values(self):
        for events in ([], GOOD):
            log = KeptLog(cash(), events)
            for value in ODD + [events, tuple(events), cash(), repr(log), len(events)]:
                self.assertIs(log == value, False)
                self.assertIs(value == log, False)
                self.assertIs(log != value, True)


class Put(LogChecks):
    def test_one_by_one_and_all_at_once(self):
        for program, events in sample_logs(43):
            log = KeptLog(program)
            for at, event in enumerate(events):
                self.assertIsNone(log.put(event))
                self.assert_same((len(log), log.worked), (at + 1, at + 1))
            self.assert_log(log, program, events, len(events))
            half = len(events) // 2
            log = KeptLog(program, events[:half])
            self.assertIsNone(log.put(*events[half:]))
            self.assert_log(log, program, events, len(events))

    def test_nothing(self):
        log = KeptLog(cash(), GOOD)
        log.put()
        self.assert_log(log, cash(), GOOD, 4)

    def test_200_and_one_more(self):
        log = KeptLog(cash(), GOOD * 49)
        log.put(*GOOD)
        self.assert_same(len(log), 200)
        log.put()
        before = seen(log)
        self.assert_refused("Full", [200], log.put, PAY)
        self.assert_refused("Full", [200], log.put, *GOOD)
        self.assert_same(seen(log), before)
        log.cut(199)
        self.assert_refused("Full", [200], log.put, PAY, PAY)
        self.assert_same((len(log), log.worked), (199, 200))
        log.put(PAY)
        self.assert_same((len(log), log.worked), (200, 201))

    def test_wrong_events(self):
        log = KeptLog(cash(), GOOD)
        before = seen(log)
        for value in NO_EVENTS:
            self.assert_refused("InvalidEvent", [0], log.put, value)
            self.assert_refused("InvalidEvent", [2], log.put, PAY, PAY, value, None)
        self.assert_refused("InvalidEvent", [0], log.put, GOOD)
        self.assert_same(seen(log), before)

    def test_wrong_events_ahead_of_full(self):
        log = KeptLog(cash(), GOOD * 50)
        self.assert_refused("InvalidEvent", [0], log.put, None)
        self.assert_refused("InvalidEvent", [1], log.put, PAY, ("pay", "1"))
        self.assert_same(len(log), 200)


class Cut(LogChecks):
    def test_at_each_place(self):
        for program, events in sample_logs(44, (0, 1, 8)):
            for place in range(len(events) + 1):
                log = KeptLog(program, events)
                self.assertIsNone(log.cut(place))
                self.assert_log(log, program, events[:place], len(events))

    def test_and_put_again(self):
        for program, events in sample_logs(45, (9,)):
            log = KeptLog(program, events)
            log.cut(place=4)
            log.put(*events[6:])
            self.assert_log(log, program, events[:4] + events[6:], 12)
            log.cut(0)
            self.assert_log(log, program, [], 12)
            log.put(*events[::-1])
            self.assert_log(log, program, events[::-1], 21)

    def test_other_values(self):
        for many in (0, 1, 4):
            log = KeptLog(cash(), GOOD[:many])
            before = seen(log)
            for value in beyond(0, many):
                self.assert_refused("InvalidPlace", [value], log.cut, value)
            self.assert_same(seen(log), before)


class Branches(LogChecks):
    def test_the_same_events(self):
        for program, events in sample_logs(46, (0, 1, 8)):
            log = KeptLog(program, events)
            other = log.branch()
            self.assertIs(type(other), KeptLog)
            self.assert_log(other, program, events, 0)
            self.assert_log(log, program, events, len(events))

    def test_independent(self):
        program = drops()
        events = [("add", 1), ("noa", 0), ("add", 2), ("nob", 0)]
        log = KeptLog(program, events)
        one, other = log.branch(), log.branch()
        log.put(("noa", 5))
        one.cut(1)
        one.put(("nob", 1), ("noa", 1))
        last = one.branch()
        other.cut(0)
        self.assert_log(log, program, events + [("noa", 5)], 5)
        self.assert_log(one, program, events[:1] + [("nob", 1), ("noa", 1)], 2)
        self.assert_log(other, program, [], 0)
        one.cut(2)
        self.assert_log(last, program, events[:1] + [("nob", 1), ("noa", 1)], 0)

    def test_worked_of_the_branch_alone(self):
        log = KeptLog(cash(), GOOD)
        other = log.branch()
        other.put(PAY, PAY)
        self.assert_same((log.worked, other.worked, other.branch().worked), (4, 2, 0))


class WithEvents(LogChecks):
    def test_further_events(self):
        for program, events in sample_logs(47, (0, 1, 9)):
            half = len(events) // 2
            log = KeptLog(program, events[:half])
            for given in (events[half:], tuple(events[half:])):
                other = log.with_events(given)
                self.assertIs(type(other), KeptLog)
                self.assert_log(other, program, events, len(events) - half)
            self.assert_log(log, program, events[:half], half)
            self.assert_log(log.with_events(events=[]), program, events[:half], 0)

    def test_independent(self):
        program = drops()
        log = KeptLog(program, [("add", 1)])
        one = log.with_events([("noa", 0)])
        other = one.with_events([("nob", 0)])
        log.put(("add", 7))
        one.cut(0)
        other.put(("add", 4))
        self.assert_log(log, program, [("add", 1), ("add", 7)], 2)
        self.assert_log(one, program, [], 1)
        self.assert_log(other, program, [("add", 1), ("noa", 0), ("nob", 0), ("add", 4)], 2)

    def test_200_and_one_more(self):
        log = KeptLog(cash(), GOOD * 49)
        full = log.with_events(GOOD)
        self.assert_same((len(full), full.worked, len(log)), (200, 4, 196))
        self.assert_refused("Full", [200], log.with_events, GOOD + [PAY])
        self.assert_refused("Full", [200], full.with_events, (PAY,))
        self.assert_same((full.with_events([]) == full, len(log), log.worked), (True, 196, 196))

    def test_wrong_events(self):
        log = KeptLog(cash(), GOOD)
        before = seen(log)
        for value in NO_LISTS + [PAY]:
            self.assert_refused("InvalidEvent", [0], log.with_events, value)
        for value in NO_EVENTS:
            self.assert_refused("InvalidEvent", [0], log.with_events, [value])
            self.assert_refused("InvalidEvent", [2], log.with_events, (PAY, PAY, value, None))
        self.assert_refused("InvalidEvent", [200], log.with_events, [PAY] * 200 + [5])
        self.assert_same(seen(log), before)


class Shown(Checks):
    def test_repr(self):
        for many in range(4):
            log = KeptLog(cash(), GOOD[:many])
            self.assert_same((repr(log), str(log)), (f"KeptLog({many} events)",) * 2)
        self.assert_same(repr(KeptLog(lights())), "KeptLog(0 events)")

    def test_properties_cannot_be_assigned(self):
        log = KeptLog(cash(), GOOD)
        for name in ("program", "worked"):
            with self.assertRaises(AttributeError):
                setattr(log, name, 5)

    def test_a_log_is_not_iterated_over(self):
        with self.assertRaises(TypeError):
            list(KeptLog(cash(), GOOD))
