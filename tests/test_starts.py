"""Promise 15: the starts of a state, one of them and a basis."""

from fractions import Fraction

from twinbegun.logs import KeptLog
from twinbegun.programs import Program
from twinbegun.starts import Starts, starts
from tests.checks import (
    ODD, STEPS, Checks, bare, beyond, cash, chance, drops, keeps, lights, pairs, sample_logs, some_logs, some_state,
)
from tests.plain import Stretches, has_starts, leads, plain_rank

NO_STATES = ODD + [["on", (1, 2)], ("on", [1, 2]), ("on", (1,)), ("on", (1, 2, 3)), ("off", (1, 2)), ("on", (1, True))]


def doubles():
    """One mode and two registers: `twice` doubles a, `join` puts a + b into both, `four` has a factor of 4 and 6."""
    return Program(["on"], ["a", "b"], ["twice", "join", "four"], [
        ("on", "twice", "on", (("a", (("a", 2),)),)),
        ("on", "join", "on", (("a", (("a", 1), ("b", 1))), ("b", (("a", 1), ("b", 1))))),
        ("on", "four", "on", (("a", (("a", 4), ("b", 6))), ("b", ()))),
    ])


class Told(Checks):
    def told(self, plain, first, last, end, mode, found):
        """Holds what is told against the table of the stretch."""
        program = plain.program
        table = plain.table(first, last)
        if found is None:
            self.assertFalse(has_starts(program, table, end, mode))
            return
        self.assertTrue(has_starts(program, table, end, mode))
        self.assertIs(type(found), Starts)
        self.assert_same(found.mode, mode)
        many = len(program.registers())
        self.assertIs(type(found.numerators), tuple)
        self.assertEqual([type(number) for number in found.numerators], [int] * many)
        self.assertIs(type(found.denominator), int)
        self.assertGreaterEqual(found.denominator, 1)
        row = self.row(program, end)
        one = [Fraction(number, found.denominator) for number in found.numerators]
        self.assertTrue(leads(program, table, mode, one, row))
        basis = found.basis()
        self.assertIs(type(basis), list)
        for part in basis:
            self.assertIs(type(part), tuple)
            self.assertEqual([type(number) for number in part], [int] * many)
            self.assertTrue(leads(program, table, mode, [a + Fraction(2, 3) * b for a, b in zip(one, part)], row))
        rows = self.rows(program, table, mode)
        self.assertEqual(plain_rank(basis), len(basis))
        self.assertEqual(len(basis), many - plain_rank(rows))
        self.assert_same((len(found), repr(found)), (len(basis), f"Starts({len(basis)} free)"))

    def row(self, program, state):
        size = len(program.registers()) + 1
        row = [0] * program.width
        at = program.modes().index(state[0]) * size
        row[at:at + size] = [1, *state[1]]
        return tuple(row)

    def rows(self, program, table, mode):
        """The rows of the table for the registers in the mode."""
        size = len(program.registers()) + 1
        at = program.modes().index(mode) * size
        return list(table[at + 1:at + size])

    def test_by_the_table_of_the_stretch(self):
        dice = chance(151)
        for program, events in [*sample_logs(151, (0, 1, 2, 9)), *some_logs(151, 40)]:
            log = KeptLog(program, events)
            plain = Stretches(program, events)
            for first, last in dice.sample(pairs(len(events)), min(12, len(pairs(len(events))))):
                state = some_state(dice, program)
                for end in (program.run(state, events[first:last]), some_state(dice, program), program.first_state()):
                    for mode in program.modes():
                        self.told(plain, first, last, end, mode, starts(log, first, last, end, mode))

    def test_each_state_is_a_start_of_where_it_leads(self):
        dice = chance(152)
        for program, events in [*sample_logs(152, (0, 2, 9)), *some_logs(152, 40)]:
            log = KeptLog(program, events)
            for first, last in dice.sample(pairs(len(events)), min(12, len(pairs(len(events))))):
                for _ in range(3):
                    state = some_state(dice, program)
                    found = starts(log, first, last, program.run(state, events[first:last]), state[0])
                    self.assertIs(found.has(state[1]), True)
                    for part in found.basis():
                        times = dice.choice([-3, 1, 2, 10 ** 20])
                        moved = tuple(a + times * b for a, b in zip(state[1], part))
                        self.assertIs(found.has(moved), True)

    def test_has_says_what_the_program_does(self):
        dice = chance(153)
        met = {True: 0, False: 0}
        for program, events in [*sample_logs(153, (0, 1, 3, 9)), *some_logs(153, 60)]:
            log = KeptLog(program, events)
            for first, last in dice.sample(pairs(len(events)), min(8, len(pairs(len(events))))):
                state = some_state(dice, program)
                end = program.run(state, events[first:last])
                for mode in program.modes():
                    found = starts(log, first, last, end, mode)
                    near = tuple(number + dice.choice([-1, 0, 0, 1]) for number in state[1])
                    for values in (state[1], near, program.first_state()[1], some_state(dice, program)[1]):
                        wanted = program.run((mode, values), events[first:last]) == end
                        self.assertIs(found is not None and found.has(values), wanted)
                        met[wanted] += 1
        self.assertGreater(min(met.values()), 100)

    def test_the_empty_stretch(self):
        for program in (cash(), lights(), bare(), drops(), Program.idle("a")):
            log = KeptLog(program, [(program.signs()[0], 1)] * 3)
            for place in range(4):
                for mode in program.modes():
                    end = (mode, tuple(range(5, 5 + len(program.registers()))))
                    for other in program.modes():
                        found = starts(log, place, place, end, other)
                        if other != mode:
                            self.assertIs(found, None)
                        else:
                            self.assertIs(found.has(end[1]), True)
                            self.assert_same((len(found), found.basis(), found.mode), (0, [], mode))
                            values = [Fraction(number, found.denominator) for number in found.numerators]
                            self.assertEqual(values, list(end[1]))

    def test_starts_that_are_no_integers(self):
        log = KeptLog(doubles(), [("twice", 0)])
        found = starts(log, 0, 1, ("on", (3, 4)), "on")
        self.assertEqual([Fraction(number, found.denominator) for number in found.numerators], [Fraction(3, 2), 4])
        self.assertEqual((len(found), found.has((1, 4)), found.has((2, 4))), (0, False, False))
        found = starts(log, 0, 1, ("on", (4, 4)), "on")
        self.assertEqual((len(found), found.has((2, 4)), found.has((4, 4))), (0, True, False))

    def test_multiples_of_the_basis_that_are_no_integers(self):
        # 4 * a + 6 * b is 2 * (2 * a + 3 * b): (2, -1) and (-1, 1) both make 2, (0, 0) does not.
        log = KeptLog(doubles(), [("four", 0)])
        found = starts(log, 0, 1, ("on", (2, 0)), "on")
        self.assert_same((len(found), found.has((2, -1)), found.has((-1, 1)), found.has((5, -3))), (1, True, True, True))
        self.assert_same((found.has((0, 0)), found.has((2, 1)), found.has((1, 1))), (False, False, False))
        # 2 * a + 3 * b is a half here, so there are starts, of which none has integers.
        found = starts(log, 0, 1, ("on", (1, 0)), "on")
        self.assert_same(len(found), 1)
        self.assertFalse(any(found.has((a, b)) for a in range(-9, 9) for b in range(-9, 9)))
        self.assertIs(starts(log, 0, 1, ("on", (1, 1)), "on"), None)

    def test_a_stretch_that_joins_registers(self):
        log = KeptLog(doubles(), [("join", 0)])
        found = starts(log, 0, 1, ("on", (7, 7)), "on")
        self.assert_same([found.has((7 - b, b)) for b in (0, 3, -10 ** 30)], [True, True, True])
        self.assert_same((len(found), found.has((7, 7))), (1, False))
        self.assertIs(starts(log, 0, 1, ("on", (7, 8)), "on"), None)

    def test_a_stretch_that_forgets_all(self):
        log = KeptLog(drops(), STEPS)
        found = starts(log, 0, 5, ("on", (0, 0)), "on")
        self.assert_same((len(found), repr(found), plain_rank(found.basis())), (2, "Starts(2 free)", 2))
        self.assert_same([found.has(values) for values in [(0, 0), (5, -7), (10 ** 599, 1)]], [True, True, True])
        self.assertIs(starts(log, 0, 5, ("on", (0, 1)), "on"), None)
        self.assertIs(starts(log, 0, 5, ("on", (1, 0)), "on"), None)

    def test_a_stretch_that_keeps_all(self):
        log = KeptLog(keeps(), [("mix", 3), ("swap", 1), ("go", 0), ("mix", -2), ("go", 9)])
        state = ("on", (11, -13))
        end = keeps().run(state, log.events())
        found = starts(log, 0, 5, end, "on")
        self.assert_same((len(found), found.has(state[1]), found.has((11, -12))), (0, True, False))
        self.assertIs(starts(log, 0, 4, end, "on"), None)
        self.assertIsNot(starts(log, 0, 4, ("off", (1, 2)), "on"), None)
        self.assertIs(starts(log, 0, 4, ("off", (1, 2)), "off"), None)

    def test_modes_alone(self):
        log = KeptLog(bare(), [("go", 0), ("go", 0), ("go", 0), ("back", 0)])
        for mode in "abcd":
            found = starts(log, 0, 4, ("a", ()), mode)
            self.assert_same((found.mode, found.numerators, found.basis(), len(found)), (mode, (), [], 0))
            self.assert_same((found.has(()), found.has((0,)), found.has([]), repr(found)),
                             (True, False, False, "Starts(0 free)"))
            for end in "bcd":
                self.assertIs(starts(log, 0, 4, (end, ()), mode), None)
        self.assertIs(starts(log, 0, 1, ("b", ()), "b"), None)
        self.assertIsNot(starts(log, 0, 1, ("d", ()), "c"), None)
        self.assertIsNot(starts(log, 0, 1, ("d", ()), "d"), None)

    def test_values_of_other_kinds(self):
        log = KeptLog(cash(), [("pay", 3)])
        found = starts(log, 0, 1, ("on", (4,)), "on")
        self.assertIs(found.has((1,)), True)
        for value in ODD + [1, [1], (True,), (1, 1), (), ("1",), ((1,),), ([1],), (None,), "1", (2,), (-1,)]:
            self.assertIs(found.has(value), False, value)
        forgot = starts(KeptLog(cash(), [("reset", 3)]), 0, 1, ("on", (0,)), "on")
        for value in ODD + [[1], (True,), (False,), (1, 1), (), ("1",), ((1,),), (None,), "1", [0]]:
            self.assertIs(forgot.has(value), False, value)
        self.assertIs(forgot.has((10 ** 599,)), True)

    def test_a_log_that_was_changed_in_between(self):
        log = KeptLog(cash(), [("pay", 3), ("reset", 0)])
        one = starts(log, 0, 1, ("on", (5,)), "on")
        log.cut(0)
        log.put(("pay", 4))
        other = starts(log, 0, 1, ("on", (5,)), "on")
        self.assert_same((one.has((2,)), one.has((1,))), (True, False))
        self.assert_same((other.has((2,)), other.has((1,))), (False, True))
        self.assert_refused("InvalidRange", [0, 2], starts, log, 0, 2, ("on", (5,)), "on")

    def test_equal_logs_tell_the_same(self):
        dice = chance(154)
        for program, events in some_logs(154, 20):
            one = KeptLog(program, events)
            other = KeptLog(program)
            for event in events:
                other.put(event)
            first = dice.randint(0, len(events))
            end = program.run(some_state(dice, program), events[first:])
            for mode in program.modes():
                told = [starts(log, first, len(events), end, mode) for log in (one, other, one)]
                told = [found is not None and (found.numerators, found.denominator, found.basis()) for found in told]
                self.assert_same(told[1:], told[:1] * 2)
            self.assertEqual((one.events(), one.worked), (events, len(events)))


class Errors(Checks):
    def test_wrong_ranges(self):
        log = KeptLog(drops(), STEPS)
        for value in beyond(0, 5):
            self.assert_refused("InvalidRange", [value, 5], starts, log, value, 5, ("on", (1, 2)), "on")
            self.assert_refused("InvalidRange", [0, value], starts, log, 0, value, ("on", (1, 2)), "on")
        self.assert_refused("InvalidRange", [3, 2], starts, log, 3, 2, ("on", (1, 2)), "on")
        self.assert_refused("InvalidRange", [3, 2], starts, log, 3, 2, None, "off")
        self.assert_refused("InvalidRange", [0, True], starts, log, 0, True, None, "off")

    def test_wrong_states(self):
        log = KeptLog(drops(), STEPS)
        for value in NO_STATES:
            self.assert_refused("InvalidState", [], starts, log, 0, 5, value, "on")
            self.assert_refused("InvalidState", [], starts, log, 2, 2, value, "off")

    def test_wrong_modes(self):
        log = KeptLog(drops(), STEPS)
        for value in ODD + ["off", "a", "add", ("on",), ["on"]]:
            self.assert_refused("UnknownName", [value], starts, log, 0, 5, ("on", (0, 0)), value)
            self.assert_refused("UnknownName", [value], starts, log, 0, 5, ("on", (0, 9)), value)

    def test_by_name(self):
        log = KeptLog(cash(), [("pay", 3)])
        found = starts(mode="on", end=("on", (4,)), last=1, first=0, log=log)
        self.assert_same((found.has(values=(1,)), found.has(values=(2,))), (True, False))


class Made(Checks):
    """The class by itself."""

    def test_attributes(self):
        found = Starts("off", (1, -2), 3, [(1, 0)])
        self.assert_same([found.mode, found.numerators, found.denominator], ["off", (1, -2), 3])
        self.assert_same((found.basis(), len(found), repr(found)), ([(1, 0)], 1, "Starts(1 free)"))
        for name in ("mode", "numerators", "denominator"):
            self.assertIn(name, vars(found))

    def test_by_name(self):
        found = Starts(basis=((1, 0), (0, 1)), denominator=2, numerators=(3, 4), mode="a")
        self.assert_same([found.mode, found.numerators, found.denominator], ["a", (3, 4), 2])
        self.assert_same((found.basis(), len(found), repr(found)), ([(1, 0), (0, 1)], 2, "Starts(2 free)"))

    def test_the_basis_is_copied(self):
        basis = [(1, 0)]
        found = Starts("on", (0, 0), 1, basis)
        basis.append((0, 1))
        self.assert_same((found.basis(), len(found), found.has((0, 1))), ([(1, 0)], 1, False))
        found.basis().append((0, 1))
        found.basis()[0] = (5, 5)
        self.assert_same((found.basis(), found.has((5, 5)), found.has((5, 0))), ([(1, 0)], False, True))
        self.assert_same(Starts("on", (0,), 1, ((3,),)).basis(), [(3,)])

    def test_one_start_alone(self):
        for denominator in (1, 2, 3, 7, 10 ** 30):
            for numerators in [(0, 0), (1, 0), (6, -14), (42 * 10 ** 30, 0), (10 ** 30, 3)]:
                found = Starts("on", numerators, denominator, [])
                self.assert_same((len(found), repr(found), found.basis()), (0, "Starts(0 free)", []))
                exact = [Fraction(number, denominator) for number in numerators]
                for values in [(0, 0), (1, 0), (6, -14), (3, -7), (2, -5), (42, 0), (1, 3), (10 ** 30, 3)]:
                    self.assertIs(found.has(values), list(values) == exact, (numerators, denominator, values))

    def test_one_direction(self):
        for denominator in (1, 2, 5):
            for part in [(1, 0), (2, 0), (0, -3), (4, 6), (10 ** 40, -1)]:
                found = Starts("on", (3, -5), denominator, [part])
                for values in [(a, b) for a in range(-4, 5) for b in range(-4, 5)] + [(10 ** 40 + 3, -6)]:
                    rest = [value - Fraction(number, denominator) for value, number in zip(values, (3, -5))]
                    wanted = rest[0] * part[1] == rest[1] * part[0]
                    self.assertIs(found.has(values), wanted, (denominator, part, values))

    def test_two_directions(self):
        found = Starts("on", (1, 2, 3), 2, [(1, 0, 1), (0, 2, 0)])
        for values in [(0, 0, 1), (5, 7, 6), (-1, -1, 0), (10 ** 599, 3, 10 ** 599 + 1)]:
            self.assertIs(found.has(values), True, values)
        for values in [(0, 0, 0), (5, 7, 7), (1, 2, 3), (10 ** 599, 3, 10 ** 599)]:
            self.assertIs(found.has(values), False, values)
        found = Starts("on", (1, 2), 7, [(1, 1), (1, -1)])
        for values in [(0, 0), (5, 8), (-10 ** 599, 10 ** 599)]:
            self.assertIs(found.has(values), True, values)

    def test_values_of_other_kinds(self):
        for found in (Starts("on", (1,), 1, []), Starts("on", (1,), 1, [(1,)]), Starts("on", (2,), 2, [(5,)])):
            self.assertIs(found.has((1,)), True)
            for value in ODD + [[1], (True,), (False,), (1, 1), (), 1, "1", ("1",), ((1,),), (None,)]:
                self.assertIs(found.has(value), False, value)
        for found in (Starts("on", (), 1, []), Starts("on", (), 3, [])):
            self.assertIs(found.has(()), True)
            for value in ODD + [[1], (True,), (0,), (1,), ((),), [()]]:
                if value != ():
                    self.assertIs(found.has(value), False, value)
