"""Ways: their parts, how many kept tables they open, and that the kept tables join."""

from twinbegun.logs import KeptLog
from twinbegun.programs import Program
from twinbegun.ways import most_opened, opened, way
from tests.checks import STEPS, Checks, beyond, cash, drops, keeps, lights, pairs, sample_logs, samples, some_logs
from tests.plain import Stretches

RULES = [
    "right is no cut", "right is a cut", "left, one step", "left, a twin", "left is a cut",
    "last, left is a cut", "last, one step", "last, a twin",
]


def all_logs(seed):
    """Pairs of a program and a list of events, of all shapes."""
    yield from sample_logs(seed)
    yield from some_logs(seed, 80, 20)


class ByHand(Checks):
    def check(self, program, events, wanted):
        log = KeptLog(program, events)
        for (first, last), parts in wanted.items():
            self.assert_same(way(log, first, last), parts)

    def test_one_mode_and_one_register(self):
        self.check(cash(), [("pay", 3), ("reset", 0), ("pay", 2)], {
            (1, 3): [("step", 2, 0), ("step", 3, 1)],
            (0, 3): [("step", 2, 2), ("step", 3, 1)],
            (0, 1): [("step", 1, 1)],
            (0, 2): [("step", 2, 2)],
            (1, 2): [("step", 2, 0)],
            (2, 3): [("step", 3, 1)],
        })

    def test_without_cuts(self):
        # No place but 0 is a cut of the level 1.
        self.check(keeps(), [("mix", 1)] * 5, {
            (0, 1): [("step", 1, 1)],
            (0, 5): [("step", 5, 1)],
            (1, 2): [("step", 2, 0)],
            (1, 3): [("twin", 2, 3, 1)],
            (1, 5): [("twin", 2, 5, 1)],
            (4, 5): [("step", 5, 0)],
        })

    def test_two_registers(self):
        # The heights are 3, 0, 1, 0, 2, 1.
        self.check(drops(), STEPS, {
            (0, 5): [("step", 4, 3), ("step", 5, 2)],
            (0, 4): [("step", 4, 3)],
            (0, 3): [("step", 2, 2), ("step", 3, 1)],
            (1, 3): [("step", 2, 0), ("step", 3, 1)],
            (1, 4): [("step", 2, 0), ("step", 4, 1)],
            (1, 5): [("step", 2, 0), ("step", 4, 1), ("step", 5, 2)],
            (2, 3): [("step", 3, 1)],
            (2, 5): [("step", 4, 1), ("step", 5, 2)],
            (3, 5): [("step", 4, 0), ("step", 5, 2)],
        })

    def test_twins_on_both_levels(self):
        # The heights are 3, 0, 0, 0, 1, 0, 1, 1, 0, 2, 0, 1, 0.
        events = [("add", 1)] * 3 + [("noa", 0), ("add", 1), ("noa", 1), ("noa", 2), ("add", 1), ("nob", 1)]
        events += [("add", 4), ("noa", 0), ("add", 5)]
        log = KeptLog(drops(), events)
        self.assert_same([log.height(place) for place in range(13)], [3, 0, 0, 0, 1, 0, 1, 1, 0, 2, 0, 1, 0])
        self.check(drops(), events, {
            (1, 12): [("twin", 2, 4, 1), ("twin", 6, 9, 2), ("step", 11, 2), ("step", 12, 1)],
            (3, 8): [("step", 4, 0), ("twin", 6, 7, 2), ("step", 8, 1)],
            (5, 7): [("step", 6, 0), ("step", 7, 1)],
            (5, 8): [("step", 6, 0), ("step", 7, 1), ("step", 8, 1)],
            (4, 8): [("twin", 6, 7, 2), ("step", 8, 1)],
            (2, 3): [("step", 3, 0)],
            (1, 3): [("twin", 2, 3, 1)],
            (0, 8): [("step", 7, 2), ("step", 8, 1)],
            (0, 12): [("step", 9, 3), ("step", 11, 2), ("step", 12, 1)],
        })

    def test_the_greatest_level_is_that_of_the_width(self):
        for program, events in sample_logs(81, (9,)):
            self.assertEqual([part for part in way(KeptLog(program, events), 0, 9) if part[-1] > program.width], [])
        idle = KeptLog(Program.idle("a"), [("a", 1)] * 3)
        self.assert_same(way(idle, 0, 3), [("step", 3, 1)])
        self.assert_same(way(idle, 1, 3), [("twin", 2, 3, 1)])


class Parts(Checks):
    def test_by_the_definition(self):
        met = set()
        for program, events in all_logs(82):
            log = KeptLog(program, events)
            plain = Stretches(program, events)
            for first, last in pairs(len(events)):
                parts, rules = plain.way(first, last)
                found = way(log, first, last)
                self.assertIs(type(found), list)
                self.assert_same(found, parts)
                met.update(rules)
        self.assertEqual(sorted(met), sorted(RULES))

    def test_several_late_parts_and_several_twins(self):
        late, twins = 0, 0
        for program, events in all_logs(82):
            plain = Stretches(program, events)
            for first, last in pairs(len(events)):
                parts, rules = plain.way(first, last)
                late = max(late, rules.count("right is no cut"))
                twins = max(twins, sum(part[0] == "twin" for part in parts))
        self.assertGreaterEqual(late, 3)
        self.assertGreaterEqual(twins, 3)

    def test_the_empty_way(self):
        for program, events in all_logs(83):
            log = KeptLog(program, events)
            for place in range(len(events) + 1):
                self.assert_same(way(log, place, place), [])
        self.assert_same(opened([]), 0)
        self.assert_same(opened(()), 0)

    def test_the_kept_tables_join(self):
        for program, events in all_logs(84):
            log = KeptLog(program, events)
            for first, last in pairs(len(events)):
                place = first
                for part in way(log, first, last):
                    place = self.behind(log, part, place)
                self.assertEqual(place, last)

    def behind(self, log, part, place):
        """The place behind a part that begins at this place."""
        if part[0] == "step":
            self.assertEqual(len(part), 3)
            self.assertEqual(log.kept(part[1], part[2])[0], place)
            return part[1]
        word, near, far, level = part
        self.assertEqual(word, "twin")
        self.assertEqual(log.kept(near, level - 1)[0], place)
        self.assertEqual(log.kept(near, level)[0], log.kept(far, level)[0])
        self.assertLess(near, far)
        return far

    def test_the_same_for_equal_logs(self):
        for program, events in some_logs(85, 20):
            log = KeptLog(program, events)
            other = KeptLog(program)
            other.put(*events)
            for first, last in pairs(len(events)):
                found = way(log, first, last)
                self.assert_same(way(other, first, last), found)
                self.assert_same(way(log.branch(), first, last), found)
                found.append(None)
                self.assert_same(way(log, first, last), found[:-1])

    def test_behind_changes(self):
        log = KeptLog(drops(), STEPS)
        log.cut(4)
        log.put(("noa", 0), ("nob", 0))
        self.assert_same(way(log, 1, 6), way(KeptLog(drops(), STEPS[:4] + [("noa", 0), ("nob", 0)]), 1, 6))
        log.cut(1)
        self.assert_same(way(log, 0, 1), [("step", 1, 1)])


class Opened(Checks):
    def test_by_hand(self):
        self.assert_same(opened([("step", 2, 0), ("step", 3, 1)]), 2)
        self.assert_same(opened([("twin", 2, 3, 1)]), 3)
        self.assert_same(opened((("step", 1, 0), ("twin", 2, 3, 1), ("step", 7, 2), ("twin", 5, 6, 2))), 8)
        self.assert_same(opened(parts=[("twin", 2, 3, 1, (1, 0), 1), ("step", 4, 1)]), 4)

    def test_never_beyond_the_most(self):
        for program, events in all_logs(86):
            log = KeptLog(program, events)
            for first, last in pairs(len(events)):
                parts = way(log, first, last)
                many = sum(3 if part[0] == "twin" else 1 for part in parts)
                self.assert_same(opened(parts), many)
                self.assertLessEqual(many, most_opened(program))

    def test_the_most_itself(self):
        signs = "add add add add noa noa nob noa nob noa nob noa add add".split()
        log = KeptLog(drops(), [(sign, 1) for sign in signs])
        wanted = [("twin", 3, 5, 1), ("twin", 6, 7, 2), ("twin", 9, 11, 3), ("step", 12, 2), ("step", 14, 1)]
        self.assert_same(way(log, 2, 14), wanted)
        self.assert_same((opened(wanted), most_opened(drops())), (11, 11))

    def test_200_events(self):
        program = lights()
        log = KeptLog(program, [(program.signs()[(at * at + at // 3) % 4], at) for at in range(200)])
        ways = [way(log, first, last) for first in range(0, 201, 5) for last in range(first, 201, 7)]
        self.assertTrue(8 < max(opened(parts) for parts in ways) <= 31)

    def test_most_opened(self):
        self.assert_same([most_opened(program) for program in samples()], [7, 31, 31, 15, 19, 3])
        self.assert_same(most_opened(program=cash()), 7)


class Refused(Checks):
    def test_values_that_are_no_places(self):
        for many in (0, 1, 5):
            log = KeptLog(drops(), STEPS[:many])
            for value in beyond(0, many):
                self.assert_refused("InvalidRange", [value, many], way, log, value, many)
                self.assert_refused("InvalidRange", [0, value], way, log, 0, value)
                self.assert_refused("InvalidRange", [value, value], way, log, value, value)

    def test_the_wrong_order(self):
        log = KeptLog(drops(), STEPS)
        for first in range(6):
            for last in range(first):
                self.assert_refused("InvalidRange", [first, last], way, log, first, last)
        self.assert_refused("InvalidRange", [3, 2], way, last=2, log=log, first=3)

    def test_true_and_false(self):
        log = KeptLog(drops(), STEPS)
        for first, last in ((True, 3), (False, 3), (0, True), (False, False), (True, True)):
            self.assert_refused("InvalidRange", [first, last], way, log, first, last)

    def test_by_name(self):
        log = KeptLog(drops(), STEPS)
        self.assert_same(way(first=1, last=3, log=log), way(log, 1, 3))
