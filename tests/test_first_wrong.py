"""first_wrong and columns."""

import copy

from twinbegun.logs import KeptLog, columns, first_wrong
from twinbegun.programs import Program
from tests.checks import ODD, STEPS, Checks, cash, drops, lights, sample_logs, some_logs
from tests.plain import Stretches


def right(program, events):
    """The right lists for these events."""
    return Stretches(program, events).lots()


def changed(value):
    """All values that are a tuple of tuples and integers with one of its integers changed, or made True or False."""
    if type(value) is int:
        yield value + 1
        yield -value - 1
        yield None
        yield str(value)
        if value in (0, 1):
            yield bool(value)
        return
    for at, part in enumerate(value):
        for other in changed(part):
            yield value[:at] + (other,) + value[at + 1:]


class FirstWrong(Checks):
    def check(self, wanted, program, events, lots):
        before = copy.deepcopy(lots)
        self.assert_same(first_wrong(program, events, lots), wanted)
        self.assert_same(lots, before)

    def test_right_lists(self):
        for program, events in [*sample_logs(71, (0, 1, 2, 9)), *some_logs(71, 20)]:
            self.check(None, program, events, right(program, events))
            self.check(None, program, tuple(events), right(program, events))

    def test_what_a_log_returns(self):
        for program, events in sample_logs(72, (0, 1, 7)):
            log = KeptLog(program, events)
            levels = range(program.width + 1)
            lots = [[log.kept(place, level) for level in levels] for place in range(1, len(log) + 1)]
            self.assertIsNone(first_wrong(program, log.events(), lots))
            self.assertIsNone(first_wrong(lots=lots, events=events, program=program))

    def test_no_list(self):
        for events in ([], STEPS):
            for value in ODD + [tuple(right(drops(), events))]:
                if type(value) is not list:
                    self.check((1, 0), drops(), events, value)

    def test_lists_of_other_values(self):
        for value in ODD:
            for lots in (value, [value], [[value]], (value,), [(value,)]):
                self.check((1, 0), drops(), STEPS, lots)

    def test_a_place_of_another_kind(self):
        for at in range(5):
            for value in ODD + [(), ((),)]:
                lots = right(drops(), STEPS)
                lots[at] = value
                self.check((at + 1, 0), drops(), STEPS, lots)
            lots = right(drops(), STEPS)
            lots[at] = tuple(lots[at])
            self.check((at + 1, 0), drops(), STEPS, lots)

    def test_a_level_of_another_kind(self):
        for at in range(5):
            for level in range(4):
                kept = right(drops(), STEPS)[at][level]
                others = [list(kept), kept[:1], kept + (0,), kept[::-1], (kept[0], list(kept[1])), kept[1], kept[0]]
                others += [(kept[0], kept[1][:2]), (kept[0], kept[1] + ((0, 0, 0),)), (kept,), [kept]]
                others += [(kept[0], tuple(list(row) for row in kept[1])), (kept[0], tuple(row[1:] for row in kept[1]))]
                for value in ODD + others:
                    lots = right(drops(), STEPS)
                    lots[at][level] = value
                    self.check((at + 1, level), drops(), STEPS, lots)

    def test_each_number_changed(self):
        for program, events in ((drops(), STEPS), (cash(), [("pay", 3), ("reset", 0), ("pay", 1)])):
            for at in range(len(events)):
                for level in range(program.width + 1):
                    for value in changed(right(program, events)[at][level]):
                        lots = right(program, events)
                        lots[at][level] = value
                        self.check((at + 1, level), program, events, lots)

    def test_another_beginning(self):
        for at in range(5):
            for level in range(4):
                beginning, table = right(drops(), STEPS)[at][level]
                for other in range(-1, 7):
                    lots = right(drops(), STEPS)
                    lots[at][level] = (other, table)
                    self.check(None if other == beginning else (at + 1, level), drops(), STEPS, lots)

    def test_the_table_of_another_level_with_its_own_beginning(self):
        plain = Stretches(drops(), STEPS)
        lots = plain.lots()
        lots[3][1], lots[3][2] = lots[3][2], lots[3][1]
        self.check((4, 1), drops(), STEPS, lots)
        lots = plain.lots()
        lots[3][2] = (0, plain.table(2, 4))
        self.check((4, 2), drops(), STEPS, lots)
        # A true table of a stretch that begins at another place is not the kept one.
        lots[3][2] = (1, plain.table(1, 4))
        self.check((4, 2), drops(), STEPS, lots)

    def test_a_level_missing(self):
        for at in range(5):
            for level in range(4):
                lots = right(drops(), STEPS)
                lots[at] = lots[at][:level]
                self.check((at + 1, level), drops(), STEPS, lots)

    def test_a_level_too_much(self):
        for at in range(5):
            for more in ([None], [[]], right(drops(), STEPS)[at], [0] * 9):
                lots = right(drops(), STEPS)
                lots[at] = lots[at] + more
                self.check((at + 1, 4), drops(), STEPS, lots)

    def test_a_place_missing(self):
        for many in range(5):
            self.check((many + 1, 0), drops(), STEPS, right(drops(), STEPS)[:many])

    def test_a_place_too_much(self):
        for more in ([None], [[]], [right(drops(), STEPS)[0]], [5, 6, 7]):
            self.check((6, 0), drops(), STEPS, right(drops(), STEPS) + more)
            self.check((1, 0), drops(), [], more)

    def test_the_first_one_counts(self):
        lots = right(drops(), STEPS) + [None]
        lots[4] = lots[4] + [None]
        self.check((5, 4), drops(), STEPS, lots)
        lots[3] = lots[3][:2]
        self.check((4, 2), drops(), STEPS, lots)
        lots[3][1] = None
        self.check((4, 1), drops(), STEPS, lots)
        lots[1] = lots[1] + [lots[1][0]]
        self.check((2, 4), drops(), STEPS, lots)
        lots[1][3] = 0
        self.check((2, 3), drops(), STEPS, lots)
        lots[0] = tuple(lots[0])
        self.check((1, 0), drops(), STEPS, lots)

    def test_a_place_put_in_or_left_out(self):
        lots = right(drops(), STEPS)
        self.check((2, 0), drops(), STEPS, lots[:1] + lots)
        self.check((1, 0), drops(), STEPS, lots[1:])
        self.check((3, 0), drops(), STEPS, lots[:2] + lots[3:])

    def test_lists_of_other_events(self):
        other = STEPS[:2] + [("add", 3)] + STEPS[3:]
        self.check((3, 0), drops(), STEPS, right(drops(), other))
        self.check((3, 0), drops(), STEPS[:2], right(drops(), STEPS))
        self.check((3, 0), drops(), STEPS, right(drops(), STEPS[:2]))

    def test_wrong_events(self):
        for value in ODD:
            if not isinstance(value, (list, tuple)):
                self.assert_refused("InvalidEvent", [0], first_wrong, drops(), value, [])
            self.assert_refused("InvalidEvent", [0], first_wrong, drops(), [value], None)
            self.assert_refused("InvalidEvent", [2], first_wrong, drops(), STEPS[:2] + [value, None], value)
        self.assert_refused("InvalidEvent", [200], first_wrong, drops(), STEPS * 40 + [("add", True)], [])
        self.assert_refused("Full", [200], first_wrong, drops(), STEPS * 40 + STEPS[:1], [])
        self.assert_refused("Full", [200], first_wrong, drops(), [STEPS[0]] * 201, None)

    def test_200_events(self):
        log = KeptLog(drops(), STEPS * 40)
        lots = [[log.kept(place, level) for level in range(4)] for place in range(1, 201)]
        self.assertIsNone(first_wrong(drops(), STEPS * 40, lots))
        lots[199][3] = lots[199][2]
        self.assert_same(first_wrong(drops(), STEPS * 40, lots), (200, 3))


class Columns(Checks):
    def test_by_hand(self):
        log = KeptLog(drops(), STEPS)
        self.assert_same(columns(log), [
            "   0 add                 1  0",
            "   1 noa                 0  1",
            "   2 add                 2  0",
            "   3 nob                 0  2",
            "   4 noa                 0  1",
        ])

    def test_each_column(self):
        for program, events in sample_logs(73):
            log = KeptLog(program, events)
            lines = columns(log=log)
            self.assertIs(type(lines), list)
            self.assertEqual(len(lines), len(events))
            for at, line in enumerate(lines):
                self.assertEqual(len(line), 29)
                self.assert_same(line[:4], str(at).rjust(4))
                self.assert_same(line[4], " ")
                self.assert_same(line[5:11], events[at][0].ljust(6))
                self.assert_same(line[11:26], str(events[at][1]).rjust(15))
                self.assert_same(line[26], " ")
                self.assert_same(line[27:], str(log.height(at + 1)).rjust(2))

    def test_the_longest_signs_and_amounts(self):
        program = Program.idle("abcdef", "a")
        log = KeptLog(program, [("abcdef", -(10 ** 12)), ("a", 10 ** 12), ("abcdef", 0)])
        self.assert_same(columns(log), [
            "   0 abcdef -1000000000000  0", "   1 a       1000000000000  0", "   2 abcdef              0  0",
        ])

    def test_the_height_is_that_behind_the_event(self):
        log = KeptLog(drops(), [("noa", 0), ("add", 0), ("nob", 0)])
        self.assert_same([line[-2:] for line in columns(log)], [" 1", " 0", " 2"])

    def test_many_events_and_none(self):
        self.assert_same(columns(KeptLog(cash())), [])
        lines = columns(KeptLog(lights(), [("swap", 1)] * 200))
        self.assert_same((len(lines), lines[9][:5], lines[10][:5], lines[199][:5]), (200, "   9 ", "  10 ", " 199 "))

    def test_a_new_list_each_time(self):
        log = KeptLog(drops(), STEPS)
        lines = columns(log)
        lines.clear()
        self.assert_same(len(columns(log)), 5)
