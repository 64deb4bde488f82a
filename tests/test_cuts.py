"""Cuts, heights and kept tables, held against their definitions, and the cuts next to a place."""

from twinbegun.logs import KeptLog
from twinbegun.programs import Program
from twinbegun.tables import identity, rank, row_times, solve
from tests.checks import (
    STEPS, Checks, beyond, cash, chance, drops, keeps, lights, sample_logs, samples, some_events, some_logs,
)
from tests.plain import Stretches


def all_logs(seed):
    """Pairs of a program and a list of events, of all shapes."""
    yield from sample_logs(seed)
    yield from some_logs(seed, 60)


class Cuts(Checks):
    def test_by_hand(self):
        log = KeptLog(drops(), STEPS)
        self.assert_same([log.height(place) for place in range(6)], [3, 0, 1, 0, 2, 1])
        self.assert_same([log.cuts(level) for level in range(4)], [[0, 1, 2, 3, 4, 5], [0, 2, 4, 5], [0, 4], [0]])

    def test_by_the_definition(self):
        for program, events in all_logs(51):
            log = KeptLog(program, events)
            plain = Stretches(program, events)
            for level in range(program.width + 1):
                self.assert_same(log.cuts(level), plain.cuts[level])
            for place in range(len(events) + 1):
                self.assert_same(log.height(place), plain.height(place))

    def test_levels_that_the_samples_have(self):
        found = set()
        for program, events in all_logs(51):
            log = KeptLog(program, events)
            found.update((program.width, log.height(place)) for place in range(1, len(log) + 1))
        for width in (2, 3, 4, 8):
            self.assertTrue({level for wide, level in found if wide == width} >= set(range(width)), width)
        self.assertEqual([pair for pair in found if pair[0] == pair[1]], [])

    def test_the_ends(self):
        for program, events in all_logs(52):
            log = KeptLog(program, events)
            self.assert_same(log.height(0), program.width)
            self.assert_same(log.cuts(0), list(range(len(events) + 1)))
            self.assert_same(log.cuts(program.width), [0])

    def test_each_cut_is_one_of_all_lower_levels(self):
        for program, events in all_logs(53):
            log = KeptLog(program, events)
            for level in range(1, program.width + 1):
                self.assertTrue(set(log.cuts(level)) <= set(log.cuts(level - 1)))

    def test_programs_that_forget_nothing(self):
        idle = Program.idle("a")
        for program, event in ((keeps(), ("mix", 3)), (keeps(), ("swap", 1)), (keeps(), ("go", 0)), (idle, ("a", 9))):
            log = KeptLog(program, [event] * 12)
            self.assert_same(log.cuts(1), [0])
            self.assert_same([log.height(place) for place in range(13)], [program.width] + [0] * 12)

    def test_an_event_that_forgets_all(self):
        program = Program(["a", "b", "c", "d"], ["r"], ["end"], [(mode, "end", "c", (("r", ()),)) for mode in "abcd"])
        log = KeptLog(program, [("end", 1)] * 4)
        # From the first place on a stretch has the rank 1, and 1 is what the level 8 lets go on.
        self.assert_same([log.height(place) for place in range(5)], [8, 7, 7, 7, 7])
        self.assert_same(log.cuts(7), [0, 1, 2, 3, 4])
        self.assert_same(log.cuts(8), [0])

    def test_the_rank_is_that_from_the_last_cut_on(self):
        # Each second event forgets what the first one has forgotten already, so it is no cut.
        log = KeptLog(drops(), [("noa", 0), ("noa", 0), ("noa", 0), ("noa", 0)])
        self.assert_same(log.cuts(1), [0, 1, 2, 3, 4])
        self.assert_same(log.cuts(2), [0])
        log = KeptLog(drops(), [("noa", 0), ("nob", 0), ("add", 1), ("noa", 0), ("add", 1)])
        self.assert_same(log.cuts(1), [0, 1, 2, 4])
        self.assert_same(log.cuts(2), [0, 2])

    def test_the_events_behind_do_not_count(self):
        for program, events in some_logs(54, 30):
            log = KeptLog(program, events)
            for many in range(len(events) + 1):
                other = KeptLog(program, events[:many])
                heights = [log.height(place) for place in range(many + 1)]
                self.assert_same([other.height(place) for place in range(many + 1)], heights)


class Kept(Checks):
    def test_by_hand(self):
        log = KeptLog(drops(), STEPS)
        end = ((1, 0, 0), (0, 0, 0), (0, 0, 1))
        self.assert_same(log.kept(5, 0), (4, end))
        self.assert_same(log.kept(5, 1), (4, end))
        self.assert_same(log.kept(5, 2), (4, end))
        self.assert_same(log.kept(5, 3), (0, ((1, 0, 0), (0, 0, 0), (0, 0, 0))))
        self.assert_same(log.kept(4, 0), (3, ((1, 0, 0), (0, 1, 0), (0, 0, 0))))
        self.assert_same(log.kept(4, 1), (2, ((1, 2, 0), (0, 1, 0), (0, 0, 0))))
        self.assert_same(log.kept(4, 2), (0, ((1, 2, 0), (0, 0, 0), (0, 0, 0))))
        self.assert_same(log.kept(1, 0), (0, ((1, 1, 0), (0, 1, 1), (0, 0, 2))))
        self.assert_same(log.kept(1, 3), log.kept(1, 0))

    def test_by_the_definition(self):
        for program, events in all_logs(55):
            log = KeptLog(program, events)
            plain = Stretches(program, events)
            for place in range(1, len(events) + 1):
                for level in range(program.width + 1):
                    self.assert_same(log.kept(place, level), plain.kept(place, level))

    def test_the_fact_of_twins(self):
        dice = chance(56)
        twins = 0
        for program, events in some_logs(56, 60):
            log = KeptLog(program, events)
            for level in range(1, program.width + 1):
                places = [place for place in log.cuts(level - 1) if 0 < place and log.height(place) < level]
                for near in places:
                    beginning, table = log.kept(near, level - 1)
                    twins += log.kept(near, level)[0] < beginning
                    row = tuple(dice.randint(-99, 99) for _ in range(program.width))
                    self.assertIsNotNone(solve(log.kept(near, level)[1], row_times(row, table)))
        self.assertGreater(twins, 100)

    def test_stretches_between_neighbours(self):
        for program, events in some_logs(57, 40):
            log = KeptLog(program, events)
            for level in range(1, program.width + 1):
                cuts = log.cuts(level)
                for one, other in zip(cuts, cuts[1:]):
                    beginning, table = log.kept(other, level)
                    self.assert_same(beginning, one)
                    self.assertLessEqual(rank(table), program.width - level)

    def test_200_events(self):
        events = [(lights().signs()[(at * at + at // 3) % 4], at) for at in range(200)]
        log = KeptLog(lights(), events)
        plain = Stretches(lights(), events)
        self.assert_same([log.height(place) for place in range(201)], [plain.height(place) for place in range(201)])
        for place in range(1, 201, 13):
            for level in range(9):
                self.assert_same(log.kept(place, level), plain.kept(place, level))


class Changed(Checks):
    def test_behind_each_change(self):
        dice = chance(59)
        for program, events in some_logs(59, 25, 9):
            logs = [(KeptLog(program, events), list(events))]
            for _ in range(10):
                logs.append(self.change(dice, program, *dice.choice(logs)))
            for log, wanted in logs:
                plain = Stretches(program, wanted)
                levels = range(program.width + 1)
                self.assert_same(log.events(), wanted)
                self.assert_same([log.cuts(level) for level in levels], plain.cuts)
                places = range(1, len(wanted) + 1)
                self.assert_same([[log.kept(place, level) for level in levels] for place in places], plain.lots())

    def change(self, dice, program, log, events):
        """Changes a log, or makes another one of it; a pair of a new log and its events."""
        more = some_events(dice, program, 3)
        place = dice.randint(0, len(events))
        fresh = log.branch()
        if dice.random() < 0.5:
            log.put(*more)
            events.extend(more)
            return fresh, events[:len(events) - len(more)]
        if dice.random() < 0.5:
            log.cut(place)
            ahead = list(events)
            del events[place:]
            return fresh, ahead
        return log.with_events(more), events + more


class Neighbours(Checks):
    def test_by_hand(self):
        log = KeptLog(drops(), STEPS)
        self.assert_same([log.next_cut(place, 1) for place in range(6)], [2, 2, 4, 4, 5, None])
        self.assert_same([log.last_cut(place, 1) for place in range(6)], [0, 0, 2, 2, 4, 5])
        self.assert_same([log.next_cut(place, 2) for place in range(6)], [4, 4, 4, 4, None, None])
        self.assert_same([log.last_cut(place, 2) for place in range(6)], [0, 0, 0, 0, 4, 4])
        self.assert_same([log.next_cut(place, 0) for place in range(6)], [1, 2, 3, 4, 5, None])
        self.assert_same([log.last_cut(place, 0) for place in range(6)], [0, 1, 2, 3, 4, 5])

    def test_by_the_definition(self):
        for program, events in all_logs(60):
            log = KeptLog(program, events)
            cuts = Stretches(program, events).cuts
            for level in range(program.width + 1):
                for place in range(len(events) + 1):
                    wanted = min((cut for cut in cuts[level] if cut > place), default=None)
                    self.assert_same(log.next_cut(place, level), wanted)
                    self.assert_same(log.last_cut(place, level), max(cut for cut in cuts[level] if cut <= place))

    def test_the_level_of_the_width(self):
        log = KeptLog(drops(), STEPS)
        for place in range(6):
            self.assertIsNone(log.next_cut(place, 3))
            self.assert_same(log.last_cut(place, 3), 0)

    def test_the_empty_log(self):
        for program in samples():
            log = KeptLog(program)
            for level in range(program.width + 1):
                self.assertIsNone(log.next_cut(0, level))
                self.assert_same(log.last_cut(0, level), 0)
                self.assert_same(log.cuts(level), [0])


class Refused(Checks):
    def test_places(self):
        for many in (0, 1, 5):
            log = KeptLog(drops(), STEPS[:many])
            for value in beyond(0, many):
                self.assert_refused("InvalidPlace", [value], log.height, value)
                for level in (0, 1, 3, 4, -1, True, None):
                    self.assert_refused("InvalidPlace", [value], log.next_cut, value, level)
                    self.assert_refused("InvalidPlace", [value], log.last_cut, value, level)
            for value in beyond(1, many):
                for level in (0, 3, 4, True, None):
                    self.assert_refused("InvalidPlace", [value], log.kept, value, level)

    def test_the_place_0_has_no_kept_table(self):
        for program in samples():
            log = KeptLog(program)
            self.assert_refused("InvalidPlace", [0], log.kept, 0, 0)
            self.assert_refused("InvalidPlace", [1], log.kept, 1, 0)

    def test_levels(self):
        for program, events in sample_logs(61, (0, 3)):
            log = KeptLog(program, events)
            for value in beyond(0, program.width):
                self.assert_refused("InvalidLevel", [value], log.cuts, value)
                self.assert_refused("InvalidLevel", [value], log.next_cut, 0, value)
                self.assert_refused("InvalidLevel", [value], log.last_cut, 0, value)
                if events:
                    self.assert_refused("InvalidLevel", [value], log.kept, 1, value)

    def test_true_and_false_are_neither(self):
        log = KeptLog(cash(), [("pay", 1), ("reset", 0)])
        for value in (True, False):
            self.assert_refused("InvalidPlace", [value], log.height, value)
            self.assert_refused("InvalidPlace", [value], log.kept, value, 1)
            self.assert_refused("InvalidPlace", [value], log.cut, value)
            self.assert_refused("InvalidLevel", [value], log.cuts, value)
            self.assert_refused("InvalidLevel", [value], log.kept, 1, value)
            self.assert_refused("InvalidLevel", [value], log.next_cut, 1, value)
            self.assert_refused("InvalidLevel", [value], log.last_cut, 1, value)

    def test_by_name(self):
        log = KeptLog(drops(), STEPS)
        self.assert_same(log.height(place=4), 2)
        self.assert_same(log.cuts(level=2), [0, 4])
        self.assert_same(log.kept(level=2, place=5), log.kept(5, 2))
        self.assert_same(log.next_cut(level=2, place=1), 4)
        self.assert_same(log.last_cut(level=1, place=3), 2)

    def test_identity_is_no_kept_table(self):
        # A kept table begins ahead of its place, never at it.
        log = KeptLog(drops(), STEPS)
        for place in range(1, 6):
            for level in range(4):
                beginning, table = log.kept(place, level)
                self.assertLess(beginning, place)
                self.assertNotEqual(table, identity(3))
