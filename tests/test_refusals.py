"""Promise 4: programs that are refused, and which error comes first."""

from twinbegun.programs import Program
from tests.checks import ODD, Checks

NAMES = ["a", "b", "c", "d", "e", "f", "g", "h"]
NO_LISTS = [value for value in ODD if not isinstance(value, (list, tuple))] + ["a", "on", "abc"]


class Names(Checks):
    def test_a_whole_value_that_is_no_list(self):
        for value in NO_LISTS:
            self.assert_refused("InvalidName", [value], Program, value, [], ["x"])
            self.assert_refused("InvalidName", [value], Program, ["a"], value, ["x"])
            self.assert_refused("InvalidName", [value], Program, ["a"], [], value)

    def test_an_item_that_is_no_name(self):
        for value in ODD:
            for at in range(3):
                for names in ([value], ["p", value], ["p", value, "B", None], (value, "p")):
                    parts = [["a"], ["r"], ["x"]]
                    parts[at] = names
                    self.assert_refused("InvalidName", [value], Program, *parts)

    def test_mode_by_mode_then_the_others(self):
        self.assert_refused("InvalidName", ["A"], Program, ["a", "A", "B"], 5, 6)
        self.assert_refused("InvalidName", [5], Program, ["a"], 5, 6)
        self.assert_refused("InvalidName", ["C"], Program, ["a"], ["r", "C"], 6)
        self.assert_refused("InvalidName", [6], Program, ["a"], ["r"], 6)
        self.assert_refused("InvalidName", [4], Program, 4, ["C"], ["D"])
        self.assert_refused("InvalidName", ["one"], Program, ["a"], ["r", "one"], ["amount"])
        self.assert_refused("InvalidName", ["amount"], Program, ["a"], ["r"], ["x", "amount", "one"])
        self.assert_refused("InvalidName", ["abcdefg"], Program, ["abcdefg"], ["one"], ["x"])

    def test_ahead_of_all_other_errors(self):
        self.assert_refused("InvalidName", [""], Program, ["a", "a"], ["r", "r"], ["x", "x", ""], None)
        self.assert_refused("InvalidName", [1], Program, [], NAMES, [1], [None])
        self.assert_refused("InvalidName", [None], Program, NAMES, NAMES, None, None)


class Duplicates(Checks):
    def test_in_each_list(self):
        self.assert_refused("DuplicateName", ["b"], Program, ["a", "b", "b"], [], ["x"])
        self.assert_refused("DuplicateName", ["r"], Program, ["a"], ["r", "q", "r"], ["x"])
        self.assert_refused("DuplicateName", ["x"], Program, ["a"], [], ("x", "x"))

    def test_the_first_name_that_stands_earlier(self):
        self.assert_refused("DuplicateName", ["b"], Program, ["a", "b", "c", "b", "a"], [], ["x"])
        self.assert_refused("DuplicateName", ["c"], Program, ["a"], [], ["b", "c", "c", "b", "b"])

    def test_modes_registers_signs(self):
        self.assert_refused("DuplicateName", ["b"], Program, ["b", "b"], ["a", "a"], ["c", "c"])
        self.assert_refused("DuplicateName", ["a"], Program, ["b"], ["a", "a"], ["c", "c"])
        self.assert_refused("DuplicateName", ["c"], Program, ["b", "a"], ["a", "c"], ["c", "c"])

    def test_ahead_of_counts_and_rules(self):
        self.assert_refused("DuplicateName", ["x"], Program, [], NAMES, ["x", "x"], None)
        self.assert_refused("DuplicateName", ["h"], Program, NAMES + ["h"], [], [], [1])


class Counts(Checks):
    def test_each_count(self):
        for count in (0, 5, 6, 7, 8):
            self.assert_refused("InvalidCount", [count], Program, NAMES[:count], [], ["x"])
        for count in (5, 6, 7, 8):
            self.assert_refused("InvalidCount", [count], Program, ["a"], NAMES[:count], ["x"])
        for count in (0, 7, 8):
            self.assert_refused("InvalidCount", [count], Program, ["a"], [], NAMES[:count])

    def test_modes_registers_signs(self):
        self.assert_refused("InvalidCount", [5], Program, NAMES[:5], NAMES[:6], NAMES[:7])
        self.assert_refused("InvalidCount", [0], Program, [], NAMES[:6], NAMES[:7])
        self.assert_refused("InvalidCount", [6], Program, NAMES[:4], NAMES[:6], NAMES[:7])
        self.assert_refused("InvalidCount", [5], Program, ["a"], NAMES[:5], [])

    def test_ahead_of_the_width_and_rules(self):
        self.assert_refused("InvalidCount", [7], Program, NAMES[:4], NAMES[:4], NAMES[:7], None)
        self.assert_refused("InvalidCount", [0], Program, NAMES[:3], NAMES[:3], [], [1])
        self.assert_refused("InvalidCount", [5], Program, NAMES[:4], NAMES[:5], ["x"])

    def test_too_wide_ahead_of_rules(self):
        for rules in (None, 5, [None], [("a", "x", "a", ()), ("a", "x", "a", ())], []):
            self.assert_refused("TooWide", [8], Program, NAMES[:3], NAMES[:2], ["x"], rules)
            self.assert_refused("TooWide", [8], Program, NAMES[:2], NAMES[:4], ["x"], rules)

    def test_width_eight_is_not_too_wide(self):
        for modes, registers in ((4, 1), (2, 3)):
            self.assert_refused("InvalidRule", [0], Program, NAMES[:modes], NAMES[:registers], ["x"], None)


GOOD = ("a", "x", "b", (("r", (("r", 1), ("one", 2))),))


def change(terms):
    """A rule with these terms."""
    return ("a", "x", "b", (("r", terms),))


WRONG_RULES = [
    list(GOOD), GOOD[:3], GOOD + ((),), (), (GOOD,), [GOOD], ("a",), "axb",
    ("c", "x", "b", ()), ("x", "x", "b", ()), ("r", "x", "b", ()), (["a"], "x", "b", ()), (("a",), "x", "b", ()),
    ("a", "a", "b", ()), ("a", "z", "b", ()), ("a", "r", "b", ()), ("a", ["x"], "b", ()),
    ("a", "x", "c", ()), ("a", "x", "x", ()), ("a", "x", "r", ()), ("a", "x", ["b"], ()),
    ("a", "x", "b", []), ("a", "x", "b", None), ("a", "x", "b", "r"), ("a", "x", "b", ""), ("a", "x", "b", 0),
    ("a", "x", "b", ("r",)), ("a", "x", "b", ("r", ())), ("a", "x", "b", (("r",),)), ("a", "x", "b", (("r", (), ()),)),
    ("a", "x", "b", (["r", ()],)), ("a", "x", "b", [("r", ())]), ("a", "x", "b", ((),)),
    ("a", "x", "b", (("s", ()),)), ("a", "x", "b", (("amount", ()),)), ("a", "x", "b", (("one", ()),)),
    ("a", "x", "b", (("a", ()),)), ("a", "x", "b", (("x", ()),)), ("a", "x", "b", ((["r"], ()),)),
    ("a", "x", "b", (("r", ()), ("r", ()))), ("a", "x", "b", (("r", ()), ("q", ()), ("r", (("one", 1),)))),
    ("a", "x", "b", (("r", ()), ("s", ()))), ("a", "x", "b", (("r", ()), None)),
    change([]), change(None), change("r"), change(""), change(0), change(True), change([("r", 1)]),
    change(("r",)), change(("r", 1)), change((("r",),)), change((("r", 1, 1),)), change((["r", 1],)), change(((),)),
    change((("s", 1),)), change((("a", 1),)), change((("x", 1),)), change((("on", 1),)), change(((1, "r"),)),
    change((("r", 1), ("r", 1))), change((("one", 1), ("r", 2), ("one", 3))), change((("amount", 1), ("amount", 1))),
    change((("r", 1001),)), change((("r", -1001),)), change((("one", 10 ** 599),)), change((("amount", -1001),)),
    change((("r", True),)), change((("r", False),)), change((("one", True),)), change((("r", None),)),
    change((("r", "1"),)), change((("r", (1,)),)), change((("r", [1]),)), change((("r", 1), ("q", True))),
    ("a", "x", "b", (("r", (("r", 1),)), ("q", (("r", 1), ("r", 1))))),
    ("a", "x", "b", (("r", (("r", 1),)), ("q", [("r", 1)]))),
]


class Rules(Checks):
    def refuse(self, name, index, rules):
        self.assert_refused(name, [index], Program, ["a", "b"], ["r", "q"], ["x", "y"], rules)

    def test_a_value_that_is_no_list(self):
        for value in NO_LISTS:
            self.refuse("InvalidRule", 0, value)

    def test_wrong_values(self):
        for value in ODD + WRONG_RULES:
            self.refuse("InvalidRule", 0, [value])
            self.refuse("InvalidRule", 0, (value,))

    def test_wrong_values_in_each_part(self):
        for value in ODD:
            for at in range(4):
                if value != () or at < 3:
                    self.refuse("InvalidRule", 0, [GOOD[:at] + (value,) + GOOD[at + 1:]])
            self.refuse("InvalidRule", 0, [("a", "x", "b", (value,))])
            self.refuse("InvalidRule", 0, [("a", "x", "b", ((value, ()),))])
            if value != ():
                self.refuse("InvalidRule", 0, [change(value)])
            self.refuse("InvalidRule", 0, [change((value,))])
            if value not in ("one", "amount"):
                self.refuse("InvalidRule", 0, [change(((value, 1),))])
            if type(value) is not int or not -1000 <= value <= 1000:
                self.refuse("InvalidRule", 0, [change((("r", value),))])

    def test_the_first_wrong_one(self):
        for value in WRONG_RULES:
            self.refuse("InvalidRule", 1, [GOOD, value])
            self.refuse("InvalidRule", 2, [GOOD, ("a", "y", "b", ()), value, value, None])

    def test_ahead_of_duplicates(self):
        self.refuse("InvalidRule", 2, [GOOD, GOOD, None])
        self.refuse("InvalidRule", 3, [GOOD, GOOD, GOOD, WRONG_RULES[0]])

    def test_duplicates(self):
        self.refuse("DuplicateRule", 1, [GOOD, GOOD])
        self.refuse("DuplicateRule", 1, [GOOD, ("a", "x", "a", ())])
        self.refuse("DuplicateRule", 2, [GOOD, ("a", "y", "a", ()), ("a", "y", "b", ()), GOOD])
        self.refuse("DuplicateRule", 3, [GOOD, ("b", "x", "a", ()), ("a", "y", "b", ()), ("b", "x", "b", ()), GOOD])

    def test_the_same_mode_or_the_same_sign_is_no_duplicate(self):
        rules = [GOOD, ("a", "y", "b", GOOD[3]), ("b", "x", "b", GOOD[3]), ("b", "y", "b", GOOD[3])]
        self.assert_same(Program(["a", "b"], ["r", "q"], ["x", "y"], rules).rules(), rules)

    def test_without_registers_the_sources_are_no_registers(self):
        for target in ("amount", "one", "a", "x"):
            self.assert_refused("InvalidRule", [0], Program, ["a"], [], ["x"], [("a", "x", "a", ((target, ()),))])
