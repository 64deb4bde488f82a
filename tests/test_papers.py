"""Papers and what makes them: follow, ask and whole."""

from twinbegun.compiling import row_of
from twinbegun.logs import KeptLog
from twinbegun.papers import Paper, ask, follow, whole
from twinbegun.probes import Probe
from twinbegun.ways import most_opened, opened, way
from tests.checks import (
    ODD, STEPS, Checks, beyond, cash, chance, drops, keeps, lights, moved, nested, pairs, sample_logs, some_logs,
    some_state,
)
from tests.plain import Stretches, plain_times


def all_logs(seed):
    """Pairs of a program and a list of events, of all shapes."""
    yield from sample_logs(seed, (0, 1, 2, 9, 14))
    yield from some_logs(seed, 30, 12)


def some_row(dice, width):
    """A random row, which need not be that of a state."""
    size = dice.choice([0, 1, 9, 10 ** 12, 10 ** 599])
    return tuple(dice.randint(-size, size) for _ in range(width))


class Counted(KeptLog):
    """A log that counts how often a kept table is opened."""

    count = 0

    def kept(self, place, level):
        self.count += 1
        return KeptLog.kept(self, place, level)


class Papers(Checks):
    def test_attributes(self):
        paper = Paper(1, 3, (1, 9), (1, 2), [("step", 2, 0), ("step", 3, 1)])
        self.assert_same((paper.first, paper.last, paper.start, paper.end), (1, 3, (1, 9), (1, 2)))
        self.assert_same(paper.parts(), [("step", 2, 0), ("step", 3, 1)])
        self.assert_same(Paper(parts=(), end=5, start=4, last=3, first=2).first, 2)

    def test_any_values(self):
        for value in ODD:
            paper = Paper(value, value, value, value, value)
            for found in (paper.first, paper.last, paper.start, paper.end):
                self.assert_same(found, value)
            if isinstance(value, (list, tuple)):
                self.assert_same(paper.parts(), list(value))
            else:
                self.assertIs(paper.parts(), value)

    def test_starts_of_any_kind(self):
        states = [("on", (9,)), ["on", (9,)], ("on", [9]), (1, 9), [1, 9], (True, 9), "on", b"on", {"on": 9}, 1.5]
        probe = Probe(cash(), ("on", (3,)), [])
        for value in [*ODD, *states, probe, probe.start, cash(), KeptLog(cash()), Paper(0, 0, (1, 0), (1, 0), [])]:
            paper = Paper(0, 1, value, (1, 5), [("step", 1, 0)])
            self.assert_same(vars(paper)["start"], value)
            self.assert_same(paper.start, value)
            self.assert_same((paper.first, paper.last, paper.end, paper.parts()), (0, 1, (1, 5), [("step", 1, 0)]))
            self.assert_same(Paper(parts=[], end=None, start=value, last=None, first=None).start, value)
            # Only from the row of 2 does the event lead to the row of 5.
            self.assertIs(paper.holds(KeptLog(cash(), [("pay", 3)])), False)
            self.assert_same((repr(paper), paper.start), ("Paper(1 parts)", value))
        self.assert_same(probe.start, ("on", (3,)))
        self.assertIs(Paper(0, 1, (1, 2), (1, 5), [("step", 1, 0)]).holds(KeptLog(cash(), [("pay", 3)])), True)

    def test_each_paper_has_a_start_of_its_own(self):
        papers = [Paper(0, 0, value, value, []) for value in ODD]
        self.assert_same([paper.start for paper in papers], ODD)

    def test_parts_are_copied(self):
        inner = ["step", 2, [0]]
        parts = [("step", 1, 0), inner, (inner,)]
        paper = Paper(0, 2, (1, 0), (1, 0), parts)
        wanted = [("step", 1, 0), ["step", 2, [0]], (["step", 2, [0]],)]
        inner[2].append(5)
        inner.append(6)
        parts.clear()
        self.assert_same(paper.parts(), wanted)
        found = paper.parts()
        found[1][2].append(5)
        found[2][0].clear()
        found.append(7)
        self.assert_same(paper.parts(), wanted)

    def test_deep_values(self):
        for kind in (list, tuple):
            deep = nested(kind, 9, [1])
            self.assert_same(Paper(0, 0, (), (), deep).parts(), list(deep))

    def test_tuples_of_parts(self):
        paper = Paper(0, 1, (1, 0), (1, 3), (("step", 1, 0),))
        self.assert_same(paper.parts(), [("step", 1, 0)])
        self.assertIs(type(paper.parts()), list)
        self.assertIs(paper.holds(KeptLog(cash(), [("pay", 3)])), True)

    def test_repr(self):
        for many in range(4):
            for kind in (list, tuple):
                self.assert_same(repr(Paper(1, 2, 3, 4, kind([("step", 1, 0)] * many))), f"Paper({many} parts)")
        for value in ODD:
            if not isinstance(value, (list, tuple)):
                self.assert_same(repr(Paper(1, 2, 3, 4, value)), "Paper(0 parts)")
        self.assert_same(str(Paper(None, None, None, None, [1, 2])), "Paper(2 parts)")


class Follow(Checks):
    def test_each_stretch(self):
        dice = chance(91)
        for program, events in all_logs(91):
            log = KeptLog(program, events)
            plain = Stretches(program, events)
            for first, last in pairs(len(events)):
                row = some_row(dice, program.width)
                paper = follow(log, first, last, row)
                self.assertIs(type(paper), Paper)
                self.assert_same((paper.first, paper.last, paper.start), (first, last, row))
                self.assert_same(paper.end, plain_times(row, plain.table(first, last)))
                found = [part if part[0] == "step" else part[:4] for part in paper.parts()]
                self.assert_same(found, way(log, first, last))
                self.assertTrue(plain.holds(paper))
                self.assertIs(paper.holds(log), True)
                self.assertIs(paper.holds(log=KeptLog(program, events)), True)
                self.assert_same(opened(paper.parts()), opened(way(log, first, last)))

    def test_rows_of_states(self):
        dice = chance(92)
        for program, events in all_logs(92):
            log = KeptLog(program, events)
            for first, last in pairs(len(events)):
                state = some_state(dice, program)
                paper = follow(log, first, last, row_of(program, state))
                self.assert_same(paper.end, row_of(program, program.run(state, events[first:last])))

    def test_the_empty_stretch(self):
        for program, events in all_logs(93):
            log = KeptLog(program, events)
            row = tuple(range(3, 3 + program.width))
            for place in range(len(events) + 1):
                paper = follow(log, place, place, row)
                self.assert_same((paper.parts(), paper.start, paper.end), ([], row, row))

    def test_twin_rows(self):
        log = KeptLog(keeps(), [("mix", 1), ("go", 0), ("go", 0), ("mix", 2), ("swap", 0)])
        fractions = 0
        for number in range(1, 7):
            (part,) = follow(log, 2, 5, (1, number, 0, 0, 0, 0)).parts()
            self.assertEqual((part[:4], len(part), len(part[4])), (("twin", 3, 5, 1), 6, 6))
            self.assertGreaterEqual(part[5], 1)
            fractions += part[5] > 1
        self.assertGreater(fractions, 0)

    def test_a_log_that_changes_behind_it(self):
        log = KeptLog(drops(), STEPS)
        paper = follow(log, 0, 3, (1, 2, 3))
        log.put(("add", 4))
        self.assertIs(paper.holds(log), True)
        log.cut(2)
        self.assertIs(paper.holds(log), False)
        log.put(("add", 3))
        self.assertIs(paper.holds(log), False)
        log.cut(2)
        log.put(("add", 2))
        self.assertIs(paper.holds(log), True)

    def test_the_same_for_equal_logs(self):
        dice = chance(94)
        for program, events in some_logs(94, 15):
            log = KeptLog(program, events)
            for first, last in pairs(len(events)):
                row = some_row(dice, program.width)
                one = follow(log, first, last, row)
                other = follow(KeptLog(program).with_events(events), first, last, row)
                self.assert_same(one.parts(), other.parts())
                self.assert_same((one.start, one.end), (other.start, other.end))

    def test_wrong_ranges_and_rows(self):
        log = KeptLog(drops(), STEPS)
        rows = [(1, 2), (1, 2, 3, 4), [1, 2, 3], (1, 2, True), (False, 0, 0), (1, 2, None), (1, 2, "3"), ("on", (1, 2))]
        for value in ODD + rows:
            self.assert_refused("InvalidRow", [], follow, log, 0, 5, value)
            self.assert_refused("InvalidRow", [], follow, log, 2, 2, value)
            self.assert_refused("InvalidRange", [2, 1], follow, log, 2, 1, value)
        for value in beyond(0, 5):
            self.assert_refused("InvalidRange", [value, 5], follow, log, value, 5, (1, 2, 3))
            self.assert_refused("InvalidRange", [0, value], follow, log, 0, value, None)

    def test_by_name(self):
        log = KeptLog(drops(), STEPS)
        self.assert_same(follow(row=(1, 2, 3), last=4, first=1, log=log).end, follow(log, 1, 4, (1, 2, 3)).end)


class Ask(Checks):
    def test_by_hand(self):
        log = KeptLog(cash(), [("pay", 3), ("reset", 0), ("pay", 2)])
        self.assert_same(ask(log, 1, 3, ("on", (9,))), ("on", (2,)))
        self.assert_same(ask(log, 0, 1, ("on", (9,))), ("on", (12,)))
        self.assert_same(ask(log, 2, 2, ("on", (9,))), ("on", (9,)))

    def test_event_by_event(self):
        dice = chance(95)
        for program, events in all_logs(95):
            log = KeptLog(program, events)
            for first in range(len(events) + 1):
                start = state = some_state(dice, program)
                self.assert_same(ask(log, first, first, start), start)
                for last in range(first, len(events)):
                    state = moved(program, state, events[last])
                    self.assert_same(ask(log, first, last + 1, start), state)

    def test_200_events(self):
        program = lights()
        events = [(program.signs()[(at * at + at // 3) % 4], at - 70) for at in range(200)]
        log = KeptLog(program, events)
        for first in range(0, 201, 40):
            for last in range(first, 201, 23):
                for state in (program.first_state(), ("off", (10 ** 599, -3, 7))):
                    self.assert_same(ask(log, first, last, state), program.run(state, events[first:last]))

    def test_wrong_ranges_and_states(self):
        log = KeptLog(drops(), STEPS)
        states = [["on", (1, 2)], ("on", [1, 2]), ("on", (1,)), ("off", (1, 2)), ("on", (1, True)), ("on", ())]
        for value in ODD + states + [(1, 2, 3)]:
            self.assert_refused("InvalidState", [], ask, log, 0, 5, value)
            self.assert_refused("InvalidState", [], ask, log, 3, 3, value)
            self.assert_refused("InvalidRange", [0, 6], ask, log, 0, 6, value)
        for value in beyond(0, 5):
            self.assert_refused("InvalidRange", [value, 5], ask, log, value, 5, None)
            self.assert_refused("InvalidRange", [1, value], ask, log, 1, value, ("on", (1, 2)))

    def test_by_name(self):
        log = KeptLog(drops(), STEPS)
        self.assert_same(ask(state=("on", (1, 2)), first=0, log=log, last=1), ("on", (2, 5)))


class Whole(Checks):
    def test_each_stretch(self):
        for program, events in all_logs(96):
            log = KeptLog(program, events)
            plain = Stretches(program, events)
            for first, last in pairs(len(events)):
                self.assert_same(whole(log, first, last), plain.table(first, last))

    def test_the_empty_stretch(self):
        self.assert_same(whole(KeptLog(drops()), 0, 0), ((1, 0, 0), (0, 1, 0), (0, 0, 1)))

    def test_wrong_ranges(self):
        log = KeptLog(drops(), STEPS)
        for value in beyond(0, 5):
            self.assert_refused("InvalidRange", [value, 5], whole, log, value, 5)
            self.assert_refused("InvalidRange", [0, value], whole, log, 0, value)
        self.assert_refused("InvalidRange", [4, 3], whole, log, 4, 3)
        self.assert_refused("InvalidRange", [True, False], whole, log, True, False)

    def test_by_name(self):
        self.assert_same(whole(last=1, first=0, log=KeptLog(cash(), [("pay", 3)])), ((1, 3), (0, 1)))


class FewTables(Checks):
    def test_each_answer_opens_those_of_the_way(self):
        for program, events in [*sample_logs(97, (14,)), *some_logs(97, 10)]:
            log = Counted(program, events)
            for first, last in pairs(len(events)):
                wanted = opened(way(log, first, last))
                self.assertLessEqual(wanted, most_opened(program))
                calls = [
                    (ask, program.first_state()), (follow, row_of(program, program.first_state())), (whole,),
                ]
                for call, *more in calls:
                    log.count = 0
                    call(log, first, last, *more)
                    self.assertEqual(log.count, wanted)
