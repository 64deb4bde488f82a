"""Promises 3, 5, 10 and 11: programs that are made, their rules, idle programs and equality."""

import copy

from twinbegun.programs import Program
from tests.checks import ODD, Checks, bare, cash, chance, letters, lights, many, samples, some_program

NAMES = ["a", "b", "c", "d", "e", "f", "g"]


class Made(Checks):
    def test_names_and_rules_come_back(self):
        rules = [("b", "x", "a", (("r", (("r", 2), ("amount", -1000), ("one", 1000))),)), ("a", "y", "a", ())]
        program = Program(["b", "a"], ["r", "q"], ["y", "x"], rules)
        self.assert_same(program.modes(), ["b", "a"])
        self.assert_same(program.registers(), ["r", "q"])
        self.assert_same(program.signs(), ["y", "x"])
        self.assert_same(program.rules(), rules)

    def test_by_name_and_without_rules(self):
        program = Program(registers=["r"], signs=["x"], modes=["a"])
        self.assert_same((program.modes(), program.registers(), program.signs()), (["a"], ["r"], ["x"]))
        self.assert_same(program.rules(), [])
        rules = [("a", "x", "a", ())]
        self.assert_same(Program(["a"], [], ["x"], rules=rules).rules(), rules)

    def test_tuples_in_the_place_of_lists(self):
        for program in samples():
            lists = (program.modes(), program.registers(), program.signs(), program.rules())
            other = Program(*[tuple(part) for part in lists])
            self.assert_same((other.modes(), other.registers(), other.signs(), other.rules()), lists)

    def test_returned_lists_are_new(self):
        for program in samples():
            for ask in (program.modes, program.registers, program.signs, program.rules):
                before = ask()
                self.assertIs(type(before), list)
                changed = ask()
                self.assertIsNot(before, changed)
                changed.append("zz")
                self.assert_same(ask(), before)
                changed.clear()
                self.assert_same(ask(), before)

    def test_lists_changed_behind_the_call(self):
        parts = [["a", "b"], ["r"], ["x", "y"], [("a", "x", "b", (("r", (("amount", 1),)),)), ("b", "y", "a", ())]]
        before = copy.deepcopy(parts)
        program = Program(*parts)
        self.assert_same(parts, before)
        for part in parts:
            part.reverse()
            part.append("zz")
            del part[0]
        self.assert_same([program.modes(), program.registers(), program.signs(), program.rules()], before)
        self.assertEqual(program, Program(*before))
        self.assert_same(program.width, 4)
        self.assert_same(program.first_state(), ("a", (0,)))
        self.assert_same(program.after(("a", (0,)), ("x", 4)), ("b", (4,)))
        self.assertIs(program.is_event(("zz", 0)), False)
        self.assertIs(program.is_state(("zz", (0,))), False)
        self.assert_same(repr(program), "Program(2 modes, 1 registers)")

    def test_arguments_that_are_refused_are_not_changed(self):
        parts = [["a", "b"], ["r"], ["x", "y"], [("a", "x", "b", ()), ("a", "x", "b", ())]]
        before = copy.deepcopy(parts)
        self.assert_refused("DuplicateRule", [1], Program, *parts)
        self.assert_same(parts, before)

    def test_every_width(self):
        for count in range(1, 5):
            for registers in range(5):
                width = count * (registers + 1)
                if width > 8:
                    self.assert_refused("TooWide", [8], Program, NAMES[:count], NAMES[:registers], ["x"])
                else:
                    program = Program(NAMES[:count], NAMES[:registers], ["x"])
                    self.assert_same(program.width, width)
                    self.assert_same(program.first_state(), ("a", (0,) * registers))
                    self.assert_same(repr(program), f"Program({count} modes, {registers} registers)")

    def test_every_number_of_signs(self):
        for count in range(1, 7):
            program = Program(["a"], ["a", "b", "c", "d"], NAMES[:count])
            self.assert_same(program.signs(), NAMES[:count])
            self.assert_same(program.width, 5)

    def test_the_first_state_has_the_first_mode(self):
        self.assert_same(lights().first_state(), ("on", (0, 0, 0)))
        self.assert_same(Program(["z", "a"], ["r"], ["x"]).first_state(), ("z", (0,)))
        for program in samples():
            self.assertIs(program.is_state(program.first_state()), True)

    def test_most_width(self):
        self.assert_same(Program.MOST_WIDTH, 8)
        self.assert_same(cash().MOST_WIDTH, 8)

    def test_a_name_of_each_kind_may_be_the_same(self):
        program = Program(["a"], ["a"], ["a"], [("a", "a", "a", (("a", (("a", 1), ("one", 1))),))])
        self.assert_same(program.run(("a", (3,)), [("a", 0), ("a", 0)]), ("a", (5,)))

    def test_names_of_one_and_six_letters(self):
        program = Program(["abcdef", "z"], ["zyxwvu", "a"], ["aaaaaa", "b"])
        self.assert_same(program.modes() + program.registers() + program.signs(),
                         ["abcdef", "z", "zyxwvu", "a", "aaaaaa", "b"])

    def test_factors_at_both_ends(self):
        for factor in (-1000, -1, 0, 1, 1000):
            rules = [("a", "x", "a", (("r", (("r", factor), ("one", factor), ("amount", factor))),))]
            self.assert_same(Program(["a"], ["r"], ["x"], rules).rules(), rules)

    def test_a_rule_for_each_mode_and_sign(self):
        rules = [(mode, sign, "a", ()) for mode in NAMES[:4] for sign in NAMES[:6]]
        self.assert_same(Program(NAMES[:4], ["r"], NAMES[:6], rules).rules(), rules)
        self.assert_same(Program(NAMES[:4], ["r"], NAMES[:6], rules[::-1]).rules(), rules[::-1])

    def test_all_sources_at_once(self):
        terms = tuple((source, 1) for source in ["q", "amount", "p", "one", "s", "r"])
        rules = [("a", "x", "a", tuple((target, terms) for target in ["s", "p", "r", "q"]))]
        self.assert_same(Program(["a"], ["p", "q", "r", "s"], ["x"], rules).rules(), rules)

    def test_repr(self):
        found = [repr(program) for program in samples()]
        self.assert_same(found, [
            "Program(1 modes, 1 registers)", "Program(2 modes, 3 registers)", "Program(4 modes, 1 registers)",
            "Program(4 modes, 0 registers)", "Program(1 modes, 4 registers)", "Program(1 modes, 0 registers)",
        ])

    def test_properties_cannot_be_assigned(self):
        with self.assertRaises(AttributeError):
            cash().width = 3


class Rules(Checks):
    def test_each_mode_and_sign(self):
        for program in [cash(), lights(), letters(), bare(), many()]:
            by_pair = {rule[:2]: rule for rule in program.rules()}
            for mode in program.modes():
                for sign in program.signs():
                    self.assert_same(program.rule(mode, sign), by_pair.get((mode, sign)))

    def test_by_name(self):
        self.assert_same(cash().rule(sign="reset", mode="on"), ("on", "reset", "on", (("cash", ()),)))

    def test_wrong_modes_and_signs(self):
        for value in ODD + ["off", "pay", "reset", "cash", ("on",), ["on"], ("on", "pay")]:
            self.assert_refused("UnknownName", [value], cash().rule, value, "pay")
        for value in ODD + ["on", "cash", "rese", "resets", ("pay",), ["pay"]]:
            self.assert_refused("UnknownName", [value], cash().rule, "on", value)

    def test_the_mode_first(self):
        for value in ODD:
            self.assert_refused("UnknownName", [value], cash().rule, value, "zz")
            self.assert_refused("UnknownName", ["zz"], cash().rule, "zz", value)
        self.assert_refused("UnknownName", ["pay"], cash().rule, "pay", "on")


class Idle(Checks):
    def test_idle_programs(self):
        for count in range(1, 7):
            program = Program.idle(*NAMES[:count])
            self.assertIs(type(program), Program)
            self.assert_same(program.modes(), ["on"])
            self.assert_same(program.registers(), [])
            self.assert_same(program.signs(), NAMES[:count])
            self.assert_same(program.rules(), [])
            self.assert_same(program.width, 1)
            self.assertEqual(program, Program(["on"], [], NAMES[:count]))
        self.assert_same(Program.idle("b", "a").signs(), ["b", "a"])

    def test_nothing_changes(self):
        program = Program.idle("a", "b")
        self.assert_same(program.run(program.first_state(), [("a", 5), ("b", -5)]), ("on", ()))

    def test_off_an_object(self):
        self.assertEqual(cash().idle("a"), Program.idle("a"))

    def test_refused(self):
        self.assert_refused("InvalidCount", [0], Program.idle)
        self.assert_refused("InvalidCount", [7], Program.idle, *NAMES)
        self.assert_refused("DuplicateName", ["b"], Program.idle, "a", "b", "b", "a")
        self.assert_refused("DuplicateName", ["a"], Program.idle, *NAMES, "a")
        for value in ODD:
            self.assert_refused("InvalidName", [value], Program.idle, value)
            self.assert_refused("InvalidName", [value], Program.idle, "a", "a", value, "B")
        self.assert_refused("InvalidName", [["a", "b"]], Program.idle, ["a", "b"])


class Equality(Checks):
    def assert_equal(self, one, other, expected):
        self.assertIs(one == other, expected)
        self.assertIs(other == one, expected)
        self.assertIs(one != other, not expected)
        self.assertIs(other != one, not expected)

    def test_samples(self):
        for at, one in enumerate(samples()):
            for index, other in enumerate(samples()):
                self.assert_equal(one, other, at == index)
            self.assert_equal(one, one, True)

    def test_random_programs(self):
        dice = chance(11)
        for _ in range(50):
            one = some_program(dice)
            other = Program(tuple(one.modes()), one.registers(), tuple(one.signs()), one.rules())
            self.assert_equal(one, other, True)

    def test_each_part_counts(self):
        parts = (["a", "b"], ["p", "q"], ["x", "y"], [("a", "x", "b", ()), ("b", "x", "a", ())])
        one = Program(*parts)
        for at in range(4):
            turned = list(parts)
            turned[at] = parts[at][::-1]
            self.assert_equal(one, Program(*turned), False)
            fewer = list(parts)
            fewer[3] = []
            shorter = list(fewer)
            shorter[at] = shorter[at][:1]
            self.assert_equal(Program(*fewer), Program(*shorter), at == 3)
        self.assert_equal(one, Program(*parts[:3], parts[3][:1]), False)
        self.assert_equal(one, Program(*parts[:3]), False)

    def test_each_part_of_a_rule_counts(self):
        def made(rule):
            return Program(["a", "b"], ["p", "q"], ["x", "y"], [rule])
        rules = [
            ("a", "x", "b", (("p", (("q", 1), ("one", 2))), ("q", ()))),
            ("b", "x", "b", (("p", (("q", 1), ("one", 2))), ("q", ()))),
            ("a", "y", "b", (("p", (("q", 1), ("one", 2))), ("q", ()))),
            ("a", "x", "a", (("p", (("q", 1), ("one", 2))), ("q", ()))),
            ("a", "x", "b", (("q", (("q", 1), ("one", 2))), ("p", ()))),
            ("a", "x", "b", (("q", ()), ("p", (("q", 1), ("one", 2))))),
            ("a", "x", "b", (("p", (("one", 2), ("q", 1))), ("q", ()))),
            ("a", "x", "b", (("p", (("q", 1), ("one", 3))), ("q", ()))),
            ("a", "x", "b", (("p", (("q", 1), ("one", 2))),)),
        ]
        for at, rule in enumerate(rules):
            for index, other in enumerate(rules):
                self.assert_equal(made(rule), made(other), at == index)

    def test_values_of_other_kinds(self):
        for program in samples():
            parts = (program.modes(), program.registers(), program.signs(), program.rules())
            others = [parts, list(parts), repr(program), program.modes(), Program, program.rules, {}, object()]
            for value in ODD + others:
                self.assert_equal(program, value, False)
