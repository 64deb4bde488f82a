"""Which papers hold for a log, and that values of any kind are no harm."""

from twinbegun.logs import KeptLog
from twinbegun.papers import Paper, follow
from tests.checks import ODD, STEPS, Checks, beyond, cash, chance, drops, keeps, sample_logs, some_logs
from tests.plain import Stretches, plain_times

# The way from 1 to 12 has a twin on the level 1, a twin on the level 2 and two steps.
LONG = [("add", 1)] * 3 + [("noa", 0), ("add", 1), ("noa", 1), ("noa", 2), ("add", 1), ("nob", 1), ("add", 4)]
LONG += [("noa", 0), ("add", 5)]


def values_of(paper):
    """The values that the paper was made of, in order."""
    return [paper.first, paper.last, paper.start, paper.end, paper.parts()]


def replaced(values, at, value):
    """The values in a tuple or a list, with another one at this index."""
    return values[:at] + type(values)([value]) + values[at + 1:]


def some_paper(dice, log):
    """A random paper that holds, of the way from a place to a place."""
    last = dice.randint(0, len(log))
    first = dice.randint(0, last)
    return follow(log, first, last, tuple(dice.randint(-3, 3) for _ in range(log.program.width)))


def turned(dice, value):
    """Any value with one integer, or one item of a list or a tuple, changed at random."""
    if isinstance(value, (list, tuple)) and len(value) > 0:
        at = dice.randrange(len(value))
        if dice.random() < 0.1:
            return value[:at] + value[at + 1:]
        if dice.random() < 0.1:
            return value[:at + 1] + value[at:]
        return replaced(value, at, turned(dice, value[at]))
    if type(value) is int:
        return value + dice.choice([-3, -2, -1, 1, 2, 3])
    return dice.choice(["step", "twin", 0, 1, (), []])


class Hold(Checks):
    def assert_held(self, wanted, log, *values):
        self.assertIs(Paper(*values).holds(log), wanted, values)


class ByHand(Hold):
    def test_steps(self):
        log = KeptLog(drops(), STEPS)
        # Behind add 1, noa 0, add 2, nob 0, noa 0 the row (1, a, b) is (1, 0, 0).
        steps = [("step", place, 0) for place in range(1, 6)]
        self.assert_held(True, log, 0, 5, (1, 2, 3), (1, 0, 0), steps)
        self.assert_held(True, log, 0, 5, (1, 2, 3), (1, 0, 0), [("step", 5, 3)])
        self.assert_held(True, log, 0, 5, (1, 2, 3), (1, 0, 0), (("step", 4, 2), ("step", 5, 0)))
        self.assert_held(True, log, 0, 5, (1, 2, 3), (1, 0, 0), [("step", 2, 1), ("step", 4, 1), ("step", 5, 1)])
        self.assert_held(True, log, 2, 4, (2, 1, 1), (2, 5, 0), [("step", 3, 1), ("step", 4, 0)])
        self.assert_held(False, log, 0, 5, (1, 2, 3), (1, 0, 1), [("step", 5, 3)])
        self.assert_held(False, log, 0, 4, (1, 2, 3), (1, 0, 0), [("step", 5, 3)])
        self.assert_held(False, log, 0, 5, (1, 2, 3), (1, 0, 0), [("step", 5, 2)])
        self.assert_held(False, log, 0, 5, (1, 2, 3), (1, 0, 0), [("step", 5, 1)])
        self.assert_held(False, log, 0, 5, (1, 2, 3), (1, 0, 0), [("step", 2, 1), ("step", 5, 2)])
        self.assert_held(False, log, 0, 5, (1, 2, 3), (1, 0, 0), steps[:-1])
        self.assert_held(False, log, 0, 5, (1, 2, 3), (1, 0, 0), steps[1:])
        self.assert_held(False, log, 0, 5, (1, 2, 3), (1, 0, 0), steps[::-1])
        self.assert_held(False, log, 0, 5, (1, 2, 3), (1, 0, 0), steps + steps[-1:])

    def test_no_parts(self):
        log = KeptLog(drops(), STEPS)
        for parts in ([], ()):
            self.assert_held(True, log, 3, 3, (4, 5, 6), (4, 5, 6), parts)
            self.assert_held(False, log, 3, 3, (4, 5, 6), (4, 5, 7), parts)
            self.assert_held(False, log, 3, 4, (4, 5, 6), (4, 5, 6), parts)
            self.assert_held(False, log, 6, 6, (4, 5, 6), (4, 5, 6), parts)
            self.assert_held(True, KeptLog(drops()), 0, 0, (4, 5, 6), (4, 5, 6), parts)

    def test_a_twin(self):
        # Without cuts but 0 the twin of (1, a) at 2 begins at 0, with 5 less.
        log = KeptLog(cash(), [("pay", 1), ("pay", 4), ("pay", 2), ("pay", 3)])
        self.assert_held(True, log, 2, 4, (1, 9), (1, 14), [("twin", 3, 4, 1, (1, 4), 1)])
        self.assert_held(True, log, 2, 4, (1, 9), (1, 14), [("twin", 3, 4, 1, (3, 12), 3)])
        self.assert_held(True, log, 2, 4, (3, 9), (3, 24), [("twin", 3, 4, 1, (3, -6), 1)])
        for numerators, denominator in (((1, 4), 2), ((2, 8), 1), ((1, 5), 1), ((0, 4), 1), ((-1, -4), 1), ((0, 0), 1)):
            self.assert_held(False, log, 2, 4, (1, 9), (1, 14), [("twin", 3, 4, 1, numerators, denominator)])
        for denominator in (0, -1, True, None, "1", (1,)):
            self.assert_held(False, log, 2, 4, (1, 9), (1, 14), [("twin", 3, 4, 1, (1, 4), denominator)])
        self.assert_held(False, log, 2, 4, (1, 9), (1, 14), [("twin", 3, 4, 1, (-1, -4), -1)])
        self.assert_held(False, log, 2, 4, (0, 0), (0, 0), [("twin", 3, 4, 1, (0, 0), 0)])
        self.assert_held(True, log, 2, 4, (0, 0), (0, 0), [("twin", 3, 4, 1, (0, 0), 7)])

    def test_a_twin_whose_far_place_is_not_behind_near(self):
        # The words let far be any place with the same beginning, near itself and one ahead of it too.
        log = KeptLog(cash(), [("pay", 1), ("pay", 4), ("pay", 2), ("pay", 3)])
        self.assert_held(True, log, 2, 3, (1, 9), (1, 11), [("twin", 3, 3, 1, (1, 4), 1)])
        self.assert_held(True, log, 2, 2, (1, 9), (1, 9), [("twin", 3, 2, 1, (1, 4), 1)])
        self.assert_held(True, log, 0, 1, (1, 9), (1, 10), [("twin", 1, 1, 1, (1, 9), 1)])
        self.assert_held(True, log, 0, 4, (1, 9), (1, 19), [("twin", 1, 4, 2, (5, 45), 5)])
        parts = [("twin", 3, 1, 1, (1, 4), 1), ("twin", 2, 4, 1, (1, 4), 1)]
        self.assert_held(True, log, 2, 4, (1, 9), (1, 14), parts)
        self.assert_held(False, log, 2, 4, (1, 9), (1, 14), parts[::-1])

    def test_twins_at_another_level(self):
        log = KeptLog(drops(), LONG)
        wanted = [("twin", 2, 4, 1), ("twin", 6, 9, 2), ("step", 11, 2), ("step", 12, 1)]
        paper = follow(log, 1, 12, (1, 2, 3))
        self.assert_same([part[:4] for part in paper.parts()], wanted)
        self.assertIs(paper.holds(log), True)
        for at, level in ((0, 0), (0, 2), (0, 3), (1, 1), (1, 3)):
            parts = paper.parts()
            parts[at] = replaced(parts[at], 3, level)
            self.assert_held(False, log, 1, 12, (1, 2, 3), paper.end, parts)

    def test_a_division_that_is_not_exact(self):
        # With twice the register at each event the twin at 0 of an odd register at 1 has a half.
        program = drops()
        log = KeptLog(program, [("add", 0), ("add", 0), ("add", 0), ("add", 0)])
        plain = Stretches(program, [("add", 0)] * 4)
        ((*part, numerators, denominator),) = follow(log, 1, 4, (0, 0, 1)).parts()
        self.assertEqual((part, numerators, denominator), (["twin", 2, 4, 1], (0, 0, 1), 2))
        end = plain_times((0, 0, 1), plain.table(1, 4))
        self.assert_held(True, log, 1, 4, (0, 0, 1), end, [(*part, numerators, denominator)])
        # Ahead of near the twin itself has a half: its product by the denominator is not exact there.
        self.assert_held(False, log, 2, 1, (0, 0, 1), (0, 0, 0), [("twin", 3, 1, 1, (0, 0, 1), 4)])
        self.assert_held(False, log, 1, 1, (0, 0, 1), (0, 0, 1), [("twin", 2, 1, 1, (0, 0, 1), 1)])
        self.assert_held(True, log, 1, 1, (0, 0, 1), (0, 0, 1), [("twin", 2, 1, 1, (0, 0, 1), 2)])
        parts = [("twin", 3, 1, 1, (0, 0, 1), 4), ("step", 2, 0)]
        self.assert_held(False, log, 2, 2, (0, 0, 1), (0, 0, 1), parts)
        self.assert_held(False, log, 2, 2, (0, 0, 1), (0, 0, 0), parts)
        self.assert_held(True, log, 2, 2, (0, 0, 2), (0, 0, 2), [("twin", 3, 1, 1, (0, 0, 2), 4), ("step", 2, 0)])

    def test_two_beginnings(self):
        log = KeptLog(drops(), LONG)
        # The kept tables of 2 and 5 at the level 1 begin at 0 and at 4.
        self.assert_held(True, log, 1, 2, (0, 0, 2), (0, 0, 4), [("twin", 2, 2, 1, (0, 0, 1), 1)])
        plain = Stretches(drops(), LONG)
        for far, wanted in ((4, True), (5, False)):
            end = plain_times((0, 0, 1), log.kept(far, 1)[1])
            self.assert_held(wanted, log, 1, far, (0, 0, 2), end, [("twin", 2, far, 1, (0, 0, 1), 1)])
        self.assert_held(False, log, 1, 5, (0, 0, 2), plain_times((0, 0, 2), plain.table(1, 5)),
                         [("twin", 2, 5, 1, (0, 0, 1), 1)])


class Changed(Hold):
    def test_as_the_definition_says(self):
        dice = chance(101)
        held = {True: 0, False: 0}
        for program, events in [*sample_logs(101, (3, 9)), *some_logs(101, 40, 12)]:
            log = KeptLog(program, events)
            plain = Stretches(program, events)
            for _ in range(12):
                values = values_of(some_paper(dice, log))
                for at in (0, 1, 2, 3, 4, 4, 4, 4, 4, 4):
                    paper = Paper(*replaced(values, at, turned(dice, values[at])))
                    wanted = plain.holds(paper)
                    self.assertIs(paper.holds(log), wanted, values_of(paper))
                    held[wanted] += 1
                self.assertIs(Paper(*values).holds(log), True)
        # Some papers hold all the same, such as those with another level at which the table is no other.
        self.assertGreater(held[True], 50)
        self.assertGreater(held[False], 1000)

    def test_each_number_of_a_paper(self):
        log = KeptLog(drops(), LONG)
        plain = Stretches(drops(), LONG)
        values = values_of(follow(log, 1, 12, (1, 2, 3)))
        self.assert_held(True, log, *values)
        for at in (0, 1):
            for place in range(-2, 15):
                self.assert_held(place == values[at], log, *replaced(values, at, place))
        for at in (2, 3):
            for index in range(3):
                for more in (-1, 1, 10 ** 30):
                    row = replaced(values[at], index, values[at][index] + more)
                    self.assert_held(False, log, *replaced(values, at, row))
        for at, part in enumerate(values[4]):
            for index in range(1, len(part)):
                for other in self.others(log, part, index):
                    changed = replaced(values, 4, replaced(values[4], at, replaced(part, index, other)))
                    # Another place can be near, if it has the same beginnings.
                    is_near = part[0] == "twin" and index == 1
                    self.assert_held(is_near and plain.holds(Paper(*changed)), log, *changed)

    def others(self, log, part, index):
        """Other values for one of the places, the level, the numerators or the denominator of a part."""
        value = part[index]
        if isinstance(value, tuple):
            for at in range(len(value)):
                yield replaced(value, at, value[at] + 1)
                yield replaced(value, at, value[at] - 1)
        elif (part[0], index) == ("step", 2):
            # The same table at another level is as good; a table with another beginning is not.
            here = log.kept(part[1], value)
            yield from [level for level in range(-1, 5) if level in (-1, 4) or log.kept(part[1], level) != here]
        else:
            yield from [number for number in range(-2, 15) if number != value]

    def test_another_level_with_the_same_table(self):
        log = KeptLog(drops(), STEPS)
        self.assert_same(log.kept(3, 0), log.kept(3, 1))
        for level in (0, 1):
            self.assert_held(True, log, 2, 3, (1, 0, 0), (1, 2, 0), [("step", 3, level)])
        for level in (2, 3):
            self.assert_held(False, log, 2, 3, (1, 0, 0), (1, 2, 0), [("step", 3, level)])

    def test_parts_left_out_put_in_and_exchanged(self):
        log = KeptLog(drops(), LONG)
        values = values_of(follow(log, 1, 12, (1, 2, 3)))
        parts = values[4]
        for at in range(len(parts)):
            self.assert_held(False, log, *values[:4], parts[:at] + parts[at + 1:])
            self.assert_held(False, log, *values[:4], parts[:at] + parts[at:at + 1] + parts[at:])
            for other in range(at):
                mixed = replaced(replaced(parts, at, parts[other]), other, parts[at])
                self.assert_held(False, log, *values[:4], mixed)
        self.assert_held(False, log, *values[:4], [])

    def test_another_log(self):
        log = KeptLog(drops(), LONG)
        paper = follow(log, 1, 12, (1, 2, 3))
        for at, event in enumerate(LONG):
            if at > 0 and event[0] == "add" and at != 9:
                other = replaced(LONG, at, ("add", event[1] + 1))
                wanted = Stretches(drops(), other).holds(paper)
                self.assertIs(paper.holds(KeptLog(drops(), other)), wanted)
        self.assertIs(paper.holds(KeptLog(drops(), LONG[:11])), False)
        self.assertIs(paper.holds(KeptLog(drops())), False)
        self.assertIs(paper.holds(KeptLog(cash(), [("pay", 1)] * 12)), False)
        self.assertIs(paper.holds(KeptLog(keeps(), [("mix", 1)] * 12)), False)
        self.assertIs(paper.holds(KeptLog(drops(), LONG + [("add", 1)])), True)


class OtherValues(Hold):
    def setUp(self):
        self.log = KeptLog(drops(), LONG)
        self.values = values_of(follow(self.log, 1, 12, (1, 2, 3)))

    def test_each_of_the_five(self):
        for at in range(5):
            for value in ODD + [["step"], [("step",)], "step", ("step", 1, 0)]:
                if repr(value) != repr(self.values[at]):
                    self.assert_held(False, self.log, *replaced(self.values, at, value))

    def test_all_of_the_five(self):
        for value in ODD:
            self.assert_held(False, self.log, value, value, value, value, value)

    def test_places(self):
        for at in (0, 1):
            for value in beyond(0, 12):
                self.assert_held(False, self.log, *replaced(self.values, at, value))
        for value in beyond(0, 12):
            self.assert_held(False, self.log, value, value, (1, 2, 3), (1, 2, 3), [])
        self.assert_held(False, self.log, True, *self.values[1:])
        self.assert_held(False, KeptLog(drops(), LONG), 3, 1, (1, 2, 3), (1, 2, 3), [])
        self.assert_held(False, KeptLog(drops(), LONG), False, False, (1, 2, 3), (1, 2, 3), [])
        self.assert_held(False, KeptLog(drops(), LONG), 0, False, (1, 2, 3), (1, 2, 3), [])

    def test_rows(self):
        log = KeptLog(drops(), [("add", 1)])
        self.assert_held(True, log, 0, 0, (1, 0, 1), (1, 0, 1), [])
        rows = [[1, 0, 1], (1, 0), (1, 0, 1, 0), (True, 0, 1), (1, False, 1), (1, 0, True), (1, None, 1), (1, "0", 1)]
        for row in rows:
            self.assert_held(False, log, 0, 0, row, row, [])
            self.assert_held(False, log, 0, 0, row, (1, 0, 1), [])
            self.assert_held(False, log, 0, 0, (1, 0, 1), row, [])

    def test_each_part(self):
        parts = self.values[4]
        for at, part in enumerate(parts):
            others = ODD + [list(part), part[:-1], part + (0,), part[1:], (part,)]
            others += [("steps",) + part[1:], ("",) + part[1:]]
            others += [("step",) + part[1:] if part[0] == "twin" else ("twin",) + part[1:], part[::-1], part[:4]]
            for value in others:
                if value != part:
                    self.assert_held(False, self.log, *self.values[:4], replaced(parts, at, value))

    def test_each_value_in_each_part(self):
        parts = self.values[4]
        for at, part in enumerate(parts):
            for index, value in enumerate(part):
                for other in ODD:
                    if type(other) is type(value) and (other == value or (part[0] == "step" and index == 2)):
                        continue
                    changed = replaced(parts, at, replaced(part, index, other))
                    self.assert_held(False, self.log, *self.values[:4], changed)

    def test_true_in_the_place_of_1(self):
        log = KeptLog(cash(), [("pay", 1), ("pay", 4), ("pay", 2)])
        self.assert_held(True, log, 1, 3, (1, 1), (1, 7), [("twin", 2, 3, 1, (1, 0), 1)])
        self.assert_held(False, log, True, 3, (1, 1), (1, 7), [("twin", 2, 3, 1, (1, 0), 1)])
        self.assert_held(False, log, 1, 3, (True, 1), (1, 7), [("twin", 2, 3, 1, (1, 0), 1)])
        self.assert_held(False, log, 1, 3, (1, 1), (True, 7), [("twin", 2, 3, 1, (1, 0), 1)])
        self.assert_held(False, log, 1, 3, (1, 1), (1, 7), [("twin", 2, 3, True, (1, 0), 1)])
        self.assert_held(False, log, 1, 3, (1, 1), (1, 7), [("twin", 2, 3, 1, (True, 0), 1)])
        self.assert_held(False, log, 1, 3, (1, 1), (1, 7), [("twin", 2, 3, 1, (1, False), 1)])
        self.assert_held(False, log, 1, 3, (1, 1), (1, 7), [("twin", 2, 3, 1, [1, 0], 1)])
        self.assert_held(False, log, 1, 3, (1, 1), (1, 7), [("twin", 2, 3, 1, (1, 0), True)])
        self.assert_held(True, log, 0, 1, (1, 1), (1, 2), [("step", 1, 1)])
        self.assert_held(False, log, 0, 1, (1, 1), (1, 2), [("step", True, 1)])
        self.assert_held(False, log, 0, 1, (1, 1), (1, 2), [("step", 1, True)])
        self.assert_held(False, log, 0, 1, (1, 1), (1, 2), [("step", 1, False)])

    def test_places_and_levels_of_parts_beyond_the_log(self):
        log = KeptLog(cash(), [("pay", 1), ("pay", 4), ("pay", 2)])
        for place in (-1, 0, 4, 10 ** 599):
            self.assert_held(False, log, 0, 3, (1, 1), (1, 8), [("step", place, 1)])
            self.assert_held(False, log, 1, 3, (1, 1), (1, 7), [("twin", place, 3, 1, (1, 0), 1)])
            self.assert_held(False, log, 1, 3, (1, 1), (1, 7), [("twin", 2, place, 1, (1, 0), 1)])
        for level in (-1, 3, 10 ** 599):
            self.assert_held(False, log, 0, 3, (1, 1), (1, 8), [("step", 3, level)])
            self.assert_held(False, log, 1, 3, (1, 1), (1, 7), [("twin", 2, 3, level, (1, 0), 1)])
        self.assert_held(False, log, 1, 3, (1, 1), (1, 7), [("twin", 2, 3, 0, (1, 0), 1)])
        self.assert_held(False, log, 0, 1, (1, 1), (1, 2), [("twin", 1, 1, 0, (1, 1), 1)])
        self.assert_held(True, log, 0, 3, (1, 1), (1, 8), [("step", 3, 2)])

    def test_a_wrong_part_behind_the_others_is_no_harm(self):
        parts = self.values[4]
        for value in ODD:
            self.assert_held(False, self.log, *self.values[:4], parts + [value])
            self.assert_held(False, self.log, *self.values[:4], [value] + parts)

    def test_a_value_that_is_no_log(self):
        paper = Paper(*self.values)
        for value in ODD + [drops(), paper, LONG]:
            self.assertIs(paper.holds(value), False)
