"""What a stretch forgets: rank_of, falls, meeting and needed_from."""

from twinbegun.forgetting import falls, meeting, needed_from, rank_of
from twinbegun.logs import KeptLog
from twinbegun.programs import Program
from tests.checks import (
    ODD, STEPS, Checks, bare, beyond, cash, chance, drops, keeps, lights, moved, pairs, sample_logs, some_logs,
    some_state,
)
from tests.plain import Stretches

NO_STATES = ODD + [["on", (1, 2)], ("on", [1, 2]), ("on", (1,)), ("on", (1, 2, 3)), ("off", (1, 2)), ("on", (1, True)),
                   ("add", (1, 2)), ((1, 2), "on"), ("on",), "on"]


def all_logs(seed):
    """Pairs of a program and a list of events, of all shapes."""
    yield from sample_logs(seed, (0, 1, 2, 14))
    yield from some_logs(seed, 40)


class Ranks(Checks):
    def test_by_hand(self):
        log = KeptLog(drops(), STEPS)
        self.assert_same([rank_of(log, 0, last) for last in range(6)], [3, 3, 2, 2, 1, 1])
        self.assert_same([rank_of(log, 2, last) for last in range(2, 6)], [3, 3, 2, 1])
        self.assert_same([rank_of(log, first, 5) for first in range(6)], [1, 1, 1, 1, 2, 3])

    def test_by_the_definition(self):
        for program, events in all_logs(111):
            log = KeptLog(program, events)
            plain = Stretches(program, events)
            for first, last in pairs(len(events)):
                self.assert_same(rank_of(log, first, last), plain.rank(first, last))

    def test_it_never_grows_with_the_stretch(self):
        for program, events in some_logs(112, 20):
            log = KeptLog(program, events)
            for first, last in pairs(len(events)):
                least = rank_of(log, first, last)
                self.assertTrue(1 <= least <= program.width)
                if first > 0:
                    self.assertLessEqual(rank_of(log, first - 1, last), least)
                if last < len(log):
                    self.assertLessEqual(rank_of(log, first, last + 1), least)

    def test_wrong_ranges(self):
        log = KeptLog(drops(), STEPS)
        for value in beyond(0, 5):
            self.assert_refused("InvalidRange", [value, 5], rank_of, log, value, 5)
            self.assert_refused("InvalidRange", [0, value], rank_of, log, 0, value)
        self.assert_refused("InvalidRange", [3, 2], rank_of, log, 3, 2)
        self.assert_refused("InvalidRange", [False, True], rank_of, log, False, True)

    def test_by_name(self):
        self.assert_same(rank_of(last=5, first=4, log=KeptLog(drops(), STEPS)), 2)


class Falls(Checks):
    def test_by_hand(self):
        log = KeptLog(drops(), STEPS)
        self.assert_same(falls(log, 0), [(2, 2), (4, 1)])
        self.assert_same(falls(log, 1), [(2, 2), (4, 1)])
        self.assert_same(falls(log, 2), [(4, 2), (5, 1)])
        self.assert_same(falls(log, 3), [(4, 2), (5, 1)])
        self.assert_same(falls(log, 4), [(5, 2)])
        self.assert_same(falls(log, 5), [])
        self.assert_same(falls(log, 0, last=3), [(2, 2)])
        self.assert_same(falls(log, 0, last=2), [(2, 2)])
        self.assert_same(falls(log, 0, last=1), [])

    def test_a_fall_by_more_than_one(self):
        log = KeptLog(bare(), [("go", 0), ("go", 0), ("go", 0), ("back", 0)])
        self.assert_same(falls(log, 0), [(1, 3), (2, 2), (3, 1)])
        changes = (("a", ()), ("b", ()), ("c", ()))
        program = Program(["on"], ["a", "b", "c"], ["end", "go"], [("on", "end", "on", changes)])
        log = KeptLog(program, [("go", 0), ("end", 0), ("end", 0)])
        self.assert_same(falls(log, 0), [(2, 1)])
        self.assert_same(falls(log, 2), [(3, 1)])

    def test_by_the_definition(self):
        for program, events in all_logs(113):
            log = KeptLog(program, events)
            plain = Stretches(program, events)
            for first, last in pairs(len(events)):
                found = falls(log, first, last=last)
                self.assertIs(type(found), list)
                self.assert_same(found, plain.falls(first, last))
            for first in range(len(events) + 1):
                self.assert_same(falls(log, first), plain.falls(first, len(events)))
                self.assert_same(falls(log, first, last=None), plain.falls(first, len(events)))

    def test_programs_that_forget_nothing(self):
        log = KeptLog(keeps(), [("mix", 1), ("go", 2), ("swap", 3)] * 20)
        for first in range(0, 61, 7):
            self.assert_same(falls(log, first), [])

    def test_200_events(self):
        events = [("add", at) for at in range(200)]
        events[90], events[170] = ("noa", 0), ("nob", 0)
        log = KeptLog(drops(), events)
        self.assert_same([falls(log, first) for first in (0, 90, 91, 170, 171)],
                         [[(91, 2), (171, 1)], [(91, 2), (171, 1)], [(171, 2)], [(171, 2)], []])
        self.assert_same(falls(log, 3, last=170), [(91, 2)])

    def test_wrong_ranges(self):
        log = KeptLog(drops(), STEPS)
        for value in beyond(0, 5):
            self.assert_refused("InvalidRange", [value, 5], falls, log, value)
            self.assert_refused("InvalidRange", [value, 5], falls, log, value, last=None)
            self.assert_refused("InvalidRange", [value, 3], falls, log, value, last=3)
            if value is not None:
                self.assert_refused("InvalidRange", [0, value], falls, log, 0, last=value)
        self.assert_refused("InvalidRange", [3, 2], falls, log, 3, last=2)
        self.assert_refused("InvalidRange", [0, False], falls, log, 0, last=False)
        self.assert_refused("InvalidRange", [1, 0], falls, KeptLog(drops()), 1)

    def test_by_name_only(self):
        log = KeptLog(drops(), STEPS)
        self.assert_same(falls(first=0, log=log, last=4), [(2, 2), (4, 1)])
        with self.assertRaises(TypeError):
            falls(log, 0, 4)


class Meetings(Checks):
    def test_by_hand(self):
        log = KeptLog(drops(), STEPS)
        self.assert_same(meeting(log, 0, ("on", (1, 2)), ("on", (1, 2))), 0)
        self.assert_same(meeting(log, 3, ("on", (1, 2)), ("on", (1, 2))), 3)
        self.assert_same(meeting(log, 5, ("on", (1, 2)), ("on", (1, 2))), 5)
        self.assert_same(meeting(log, 0, ("on", (1, 2)), ("on", (1, 3))), 4)
        # Behind the first event b is a + 2 * b, so these two differ in a alone.
        self.assert_same(meeting(log, 0, ("on", (1, 2)), ("on", (3, 1))), 2)
        self.assert_same(meeting(log, 1, ("on", (1, 2)), ("on", (3, 2))), 2)
        self.assert_same(meeting(log, 3, ("on", (1, 2)), ("on", (1, 7))), 4)
        self.assert_same(meeting(log, 3, ("on", (1, 2)), ("on", (0, 2))), 5)
        self.assert_same(meeting(log, 4, ("on", (1, 2)), ("on", (1, 7))), None)
        self.assert_same(meeting(log, 5, ("on", (1, 2)), ("on", (1, 7))), None)

    def test_event_by_event(self):
        dice = chance(114)
        for program, events in all_logs(114):
            log = KeptLog(program, events)
            plain = Stretches(program, events)
            for first in range(len(events) + 1):
                one, other = some_state(dice, program), some_state(dice, program)
                for two in (other, one, (one[0], one[1][:-1] + tuple(number + 1 for number in one[1][-1:]))):
                    wanted = self.first_same(program, events, first, one, two)
                    self.assert_same(meeting(log, first, one, two), wanted)
                    self.assert_same(meeting(log, first, two, one), wanted)
                    self.assert_same(plain.meeting(first, one, two), wanted)

    def first_same(self, program, events, first, one, other):
        """The first place at which the rules make the two states the same, or None."""
        for place in range(first, len(events) + 1):
            if one == other:
                return place
            if place < len(events):
                one, other = moved(program, one, events[place]), moved(program, other, events[place])
        return None

    def test_modes_alone(self):
        log = KeptLog(bare(), [("go", 0), ("go", 0), ("go", 0), ("back", 0)])
        self.assert_same(meeting(log, 0, ("a", ()), ("d", ())), 3)
        self.assert_same(meeting(log, 0, ("c", ()), ("d", ())), 1)
        self.assert_same(meeting(log, 3, ("a", ()), ("d", ())), 4)
        self.assert_same(meeting(log, 3, ("b", ()), ("d", ())), None)

    def test_200_events(self):
        events = [("add", at) for at in range(200)]
        events[150], events[199] = ("nob", 0), ("noa", 0)
        log = KeptLog(drops(), events)
        self.assert_same(meeting(log, 3, ("on", (5, 10 ** 599)), ("on", (5, -7))), 151)
        self.assert_same(meeting(log, 3, ("on", (5, 4)), ("on", (6, 4))), None)
        # Nothing makes b forget what a has put into it behind the event 150.
        self.assert_same(meeting(log, 199, ("on", (5, 4)), ("on", (6, 4))), 200)

    def test_wrong_places_and_states(self):
        log = KeptLog(drops(), STEPS)
        good = ("on", (1, 2))
        for value in beyond(0, 5):
            self.assert_refused("InvalidPlace", [value], meeting, log, value, good, good)
            self.assert_refused("InvalidPlace", [value], meeting, log, value, None, good)
        for value in NO_STATES:
            self.assert_refused("InvalidState", [], meeting, log, 0, value, good)
            self.assert_refused("InvalidState", [], meeting, log, 5, good, value)
            self.assert_refused("InvalidState", [], meeting, log, 5, value, value)
            self.assert_refused("InvalidPlace", [6], meeting, log, 6, value, value)

    def test_by_name(self):
        log = KeptLog(drops(), STEPS)
        self.assert_same(meeting(other=("on", (3, 2)), one=("on", (1, 2)), first=1, log=log), 2)


class Needed(Checks):
    def test_by_hand(self):
        log = KeptLog(drops(), STEPS)
        self.assert_same([needed_from(log, place) for place in range(6)], [None, None, None, None, 1, 3])
        log = KeptLog(cash(), [("pay", 3), ("reset", 0), ("pay", 2)])
        self.assert_same([needed_from(log, place) for place in range(4)], [None, None, 1, 1])

    def test_by_the_definition(self):
        for program, events in all_logs(115):
            log = KeptLog(program, events)
            plain = Stretches(program, events)
            for place in range(len(events) + 1):
                self.assert_same(needed_from(log, place), plain.needed_from(place))

    def test_all_states_come_to_the_same(self):
        dice = chance(116)
        for program, events in some_logs(116, 30):
            log = KeptLog(program, events)
            for place in range(len(events) + 1):
                first = needed_from(log, place)
                if first is not None:
                    ends = {program.run(some_state(dice, program), events[first:place]) for _ in range(9)}
                    self.assertEqual(len(ends), 1)

    def test_a_program_with_one_state(self):
        log = KeptLog(Program.idle("a"), [("a", 1)] * 3)
        self.assert_same([needed_from(log, place) for place in range(4)], [0, 1, 2, 3])
        self.assert_same(needed_from(KeptLog(Program.idle("a")), 0), 0)

    def test_the_first_event_alone(self):
        log = KeptLog(cash(), [("reset", 0), ("pay", 1), ("pay", 1)])
        self.assert_same([needed_from(log, place) for place in range(4)], [None, 0, 0, 0])

    def test_200_events(self):
        events = [("add", at) for at in range(200)]
        events[90], events[170] = ("noa", 0), ("nob", 0)
        log = KeptLog(drops(), events)
        self.assert_same([needed_from(log, place) for place in (90, 91, 170, 171, 200)], [None, None, None, 90, 90])

    def test_wrong_places(self):
        for many in (0, 5):
            log = KeptLog(drops(), STEPS[:many])
            for value in beyond(0, many):
                self.assert_refused("InvalidPlace", [value], needed_from, log, value)
        self.assert_refused("InvalidPlace", [True], needed_from, KeptLog(drops(), STEPS), True)

    def test_by_name(self):
        self.assert_same(needed_from(place=4, log=KeptLog(drops(), STEPS)), 1)


class BehindChanges(Checks):
    def test_put_and_cut(self):
        log = KeptLog(drops(), STEPS)
        log.cut(3)
        self.assert_same((falls(log, 0), needed_from(log, 3)), ([(2, 2)], None))
        self.assert_same(meeting(log, 0, ("on", (1, 2)), ("on", (1, 3))), None)
        log.put(("nob", 0))
        self.assert_same((falls(log, 0), needed_from(log, 4)), ([(2, 2), (4, 1)], 1))
        self.assert_same(meeting(log, 0, ("on", (1, 2)), ("on", (1, 3))), 4)

    def test_questions_change_nothing(self):
        for program, events in [(lights(), [("swap", 1), ("off", 2), ("sum", 3)]), (drops(), STEPS)]:
            log = KeptLog(program, events)
            for place in range(len(events) + 1):
                falls(log, place)
                needed_from(log, place)
                meeting(log, place, program.first_state(), program.first_state())
            self.assert_same((log.events(), log.worked), (events, len(events)))
            self.assertEqual(log, KeptLog(program, events))
