"""Promises 16 to 18: rows of states and tables of events."""

from twinbegun.compiling import is_row, row_of, state_of, table_of
from twinbegun.programs import Program
from twinbegun.tables import row_times, table_times
from tests.checks import (
    ODD, Checks, bare, cash, chance, letters, lights, many, moved, samples, some_events, some_program, some_state,
)
from tests.plain import plain_row, plain_table


class Rows(Checks):
    def test_by_hand(self):
        self.assert_same(row_of(cash(), ("on", (5,))), (1, 5))
        self.assert_same(row_of(lights(), ("on", (5, 0, -2))), (1, 5, 0, -2, 0, 0, 0, 0))
        self.assert_same(row_of(lights(), ("off", (0, 0, 0))), (0, 0, 0, 0, 1, 0, 0, 0))
        self.assert_same(row_of(letters(), ("c", (9,))), (0, 0, 0, 0, 1, 9, 0, 0))
        self.assert_same(row_of(bare(), ("b", ())), (0, 1, 0, 0))
        self.assert_same(row_of(Program.idle("a"), ("on", ())), (1,))
        self.assert_same(row_of(state=("on", (1,)), program=cash()), (1, 1))

    def test_there_and_back(self):
        dice = chance(31)
        for _ in range(300):
            program = some_program(dice)
            state = some_state(dice, program)
            row = row_of(program, state)
            self.assert_same(row, plain_row(program, state))
            self.assertIs(is_row(program, row), True)
            self.assert_same(state_of(program, row), state)

    def test_each_mode(self):
        for program in samples():
            for mode in program.modes():
                for number in (0, 1, -1, 10 ** 599):
                    state = (mode, (number,) * len(program.registers()))
                    self.assert_same(row_of(program, state), plain_row(program, state))
                    self.assert_same(state_of(row=plain_row(program, state), program=program), state)

    def test_wrong_states(self):
        for program in samples():
            mode, values = program.first_state()
            wrong = [[mode, values], (mode, list(values)), (mode, values + (0,)), (values, mode), (mode,), mode]
            for value in ODD + wrong + [("zz", values), (mode, values, 0)]:
                self.assert_refused("InvalidState", [], row_of, program, value)
        self.assert_refused("InvalidState", [], row_of, cash(), ("on", (True,)))
        self.assert_refused("InvalidState", [], row_of, cash(), ("on", ("1",)))


class IsRow(Checks):
    def test_rows(self):
        for program in samples():
            for number in (0, 1, 2, -1, 10 ** 599):
                self.assertIs(is_row(program, (number,) * program.width), True)
                self.assertIs(is_row(value=(number,) * program.width, program=program), True)

    def test_lengths(self):
        for program in samples():
            for length in range(10):
                self.assertIs(is_row(program, (1,) * length), length == program.width)

    def test_other_values(self):
        for program in samples():
            self.assertIs(is_row(program, [1] * program.width), False)
            for value in ODD:
                self.assertIs(is_row(program, value), False, value)
                if type(value) is not int:
                    for at in range(program.width):
                        row = [1] * program.width
                        row[at] = value
                        self.assertIs(is_row(program, tuple(row)), False)


class NoRowOfAState(Checks):
    def refuse(self, program, row):
        self.assert_refused("InvalidRow", [], state_of, program, row)

    def test_two_heads(self):
        self.refuse(bare(), (1, 1, 0, 0))
        self.refuse(bare(), (1, 1, 1, 1))
        self.refuse(lights(), (1, 5, 0, -2, 1, 0, 0, 0))
        self.refuse(letters(), (0, 0, 1, 2, 0, 0, 1, 2))

    def test_no_head(self):
        for program in samples():
            self.refuse(program, (0,) * program.width)
        self.refuse(cash(), (0, 1))
        self.refuse(letters(), (0, 3, 0, 0, 0, 0, 0, 0))

    def test_another_head(self):
        for head in (0, 2, -1, 10 ** 30):
            for program in samples():
                self.refuse(program, (head,) + (0,) * (program.width - 1))
                self.refuse(program, (0,) * (program.width - 1) + (head,))
        self.refuse(letters(), (0, 0, 2, 4, 0, 0, 0, 0))
        self.refuse(bare(), (1, -1, 1, 0))
        self.refuse(bare(), (2, -1, 0, 0))

    def test_numbers_beside_an_empty_head(self):
        self.refuse(letters(), (1, 3, 0, 7, 0, 0, 0, 0))
        self.refuse(letters(), (0, -1, 1, 7, 0, 0, 0, 0))
        self.refuse(lights(), (1, 1, 1, 1, 0, 0, 0, 1))
        self.refuse(lights(), (0, 0, 0, 1, 1, 1, 1, 1))
        self.refuse(letters(), (1, 3, -1, 0, 0, 0, 0, 0))

    def test_lengths_and_lists(self):
        for program in samples():
            row = plain_row(program, program.first_state())
            self.refuse(program, row[:-1])
            self.refuse(program, row + (0,))
            self.refuse(program, list(row))
            self.refuse(program, (row,))
            self.refuse(program, row + row)
            self.refuse(program, ())

    def test_true_in_the_place_of_1(self):
        for program in samples():
            row = plain_row(program, program.first_state())
            self.refuse(program, (True,) + row[1:])
            self.refuse(program, tuple(bool(number) for number in row))
            self.assertIs(is_row(program, (True,) + row[1:]), False)
        self.refuse(cash(), (1, True))
        self.refuse(cash(), (1, False))
        self.refuse(bare(), (1, False, 0, 0))

    def test_other_values(self):
        for program in samples():
            row = plain_row(program, program.first_state())
            for value in ODD:
                self.refuse(program, value)
                if value != 0 or type(value) is bool:
                    if len(program.modes()) > 1:
                        self.refuse(program, row[:-1] + (value,))

    def test_small_rows(self):
        rows = [(a, b, c, d) for a in (0, 1, 2) for b in (-1, 0, 1) for c in (0, 1, 3) for d in (0, 1, 4)]
        program = Program(["p", "q"], ["r"], ["x"])
        for row in rows:
            if row[0] == 1 and row[2:] == (0, 0):
                self.assert_same(state_of(program, row), ("p", row[1:2]))
            elif row[:2] == (0, 0) and row[2] == 1:
                self.assert_same(state_of(program, row), ("q", row[3:]))
            else:
                self.refuse(program, row)


class Tables(Checks):
    def test_by_hand(self):
        self.assert_same(table_of(cash(), ("pay", 3)), ((1, 3), (0, 1)))
        self.assert_same(table_of(cash(), ("reset", 0)), ((1, 0), (0, 0)))
        self.assert_same(table_of(Program.idle("a"), ("a", 7)), ((1,),))
        self.assert_same(table_of(bare(), ("go", 7)), ((0, 1, 0, 0), (0, 0, 1, 0), (0, 0, 0, 1), (0, 0, 0, 1)))
        self.assert_same(table_of(event=("pay", -1), program=cash()), ((1, -1), (0, 1)))
        self.assert_same(table_of(many(), ("mix", 2)), (
            (1, 10, 4, 0, 0), (0, 0, 0, 0, 1), (0, 3, 1000, 0, 2), (0, 0, 0, 1, 0), (0, -1, 0, 0, 0),
        ))

    def test_item_by_item_for_each_event(self):
        for program in samples():
            for sign in program.signs():
                for amount in (0, 1, -1, 7, 10 ** 12, -(10 ** 12)):
                    self.assert_same(table_of(program, (sign, amount)), plain_table(program, (sign, amount)))

    def test_random_programs(self):
        dice = chance(32)
        for _ in range(200):
            program = some_program(dice)
            state = some_state(dice, program)
            for event in some_events(dice, program):
                table = table_of(program, event)
                self.assert_same(table, plain_table(program, event))
                behind = moved(program, state, event)
                self.assert_same(row_times(row_of(program, state), table), row_of(program, behind))
                state = behind

    def test_products_run_the_program(self):
        dice = chance(33)
        for _ in range(50):
            program = some_program(dice)
            state = some_state(dice, program)
            events = some_events(dice, program)
            row = row_of(program, state)
            if events:
                table = table_of(program, events[0])
                for event in events[1:]:
                    table = table_times(table, table_of(program, event))
                row = row_times(row, table)
            self.assert_same(state_of(program, row), program.run(state, events))

    def test_wrong_events(self):
        for program in samples():
            sign = program.signs()[0]
            wrong = [[sign, 1], (sign, True), (sign, 10 ** 12 + 1), (sign, -(10 ** 12) - 1), (1, sign), (sign,), sign]
            for value in ODD + wrong + [("zz", 1), (sign, 1, 1), [(sign, 1)], (sign, "1"), (sign, None)]:
                self.assert_refused("InvalidEvent", [0], table_of, program, value)
