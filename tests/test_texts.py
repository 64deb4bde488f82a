"""Promise 22: the texts of programs and of lists of events, written and read."""

import re

from twinbegun.programs import Program
from twinbegun.texts import events_text, program_text, read_events, read_program
from tests.checks import FIELDS, ODD, Checks, bare, cash, chance, drops, lights, many, samples, some_events, some_program
from tests.models import parts_of, told_program, wrong_in_events, wrong_in_program

NO_STRINGS = [value for value in ODD if not isinstance(value, str)] + [["pay 3\n"], ("pay 3\n",), ["modes a\n"]]
CASH = "modes on\nregisters cash\nsigns pay reset\nrule on pay on cash = 1*cash + 1*amount\nrule on reset on cash = 0\n"
FULL = (
    "modes on off\nregisters a b\nsigns x y\n"
    "rule on x off a = 2*a + -3*b + 4*amount + -5*one; b = 0\n"
    "rule off x on\n"
    "rule off y off b = 0*a\n"
)
# Characters that make a line another one, or none.
LETTERS = ["", " ", "\n", "a", "z", "A", "0", "1", "9", "-", "+", "*", ";", "=", "_", ".", "  ", "; ", " + ", " = "]
NUMBERS = ["0", "1", "9", "10", "-1", "-10", "-9", "1000", "-1000", "9" * 60, "-" + "9" * 60, "1" + "0" * 59]
NO_NUMBERS = ["", "00", "01", "-0", "-00", "-01", "+1", "+0", "--1", "-", "+", "1-", "1.0", "1e3", "0x1", "1_0", "a", "1a",
              "a1", "one", "amount", "9" * 61, "-" + "9" * 61, "0" * 60, "1" + "0" * 60, "1,0"]


class Reading(Checks):
    def check_program(self, text):
        """The text is read as its words tell, or refused; tells how."""
        wrong = wrong_in_program(text)
        if wrong is not None:
            self.assert_refused("InvalidText", [wrong], read_program, text)
            return "InvalidText"
        try:
            wanted = Program(*parts_of(text))
        except ValueError as error:
            name = type(error).__name__
            self.assert_refused(name, [getattr(error, field) for field in FIELDS[name]], read_program, text)
            return name
        self.assertEqual(read_program(text), wanted)
        self.assertIs(type(read_program(text)), Program)
        self.assert_same(read_program(text).rules(), wanted.rules())
        return "read"

    def check_events(self, text):
        """The text is read as its words tell, or refused; tells how."""
        wrong = wrong_in_events(text)
        if wrong is not None:
            self.assert_refused("InvalidText", [wrong], read_events, text)
            return "InvalidText"
        words = [line.split(" ") for line in text.split("\n")[:-1]]
        self.assert_same(read_events(text), [(sign, int(amount)) for sign, amount in words])
        return "read"


class ProgramTexts(Reading):
    def test_by_hand(self):
        self.assert_same(program_text(cash()), CASH)
        rules = [
            ("on", "x", "off", (("a", (("a", 2), ("b", -3), ("amount", 4), ("one", -5))), ("b", ()))),
            ("off", "x", "on", ()),
            ("off", "y", "off", (("b", (("a", 0),)),)),
        ]
        program = Program(["on", "off"], ["a", "b"], ["x", "y"], rules)
        self.assert_same(program_text(program), FULL)
        self.assertEqual(read_program(FULL), program)
        self.assert_same(read_program(FULL).rules(), rules)
        self.assert_same(program_text(Program.idle("a", "b")), "modes on\nregisters\nsigns a b\n")
        self.assertEqual(read_program("modes on\nregisters\nsigns a b\n"), Program.idle("a", "b"))
        self.assert_same(program_text(bare()), "modes a b c d\nregisters\nsigns go back\nrule a go b\nrule b go c\n"
                                               "rule c go d\nrule d back a\n")

    def test_there_and_back(self):
        dice = chance(220)
        programs = [*samples(), drops(), many(), lights()]
        for program in programs + [some_program(dice) for _ in range(150)]:
            text = program_text(program)
            self.assert_same(text, told_program(program))
            self.assertEqual(read_program(text), program)
            self.assert_same(read_program(text).rules(), program.rules())
            self.assert_same(program_text(read_program(text)), text)
            self.assertIs(wrong_in_program(text), None)

    def test_all_widths_with_rules_for_none_to_all_signs(self):
        signs = ["s", "t", "u", "v", "w", "x"]
        for modes in range(1, 5):
            for registers in range(5):
                if modes * (registers + 1) > 8:
                    continue
                for with_rules in range(7):
                    names = ["a", "b", "c", "d"][:modes]
                    values = ["p", "q", "r", "on"][:registers]
                    rules = [(mode, sign, names[-1], tuple((name, ((name, 1), ("one", -1))) for name in values))
                             for mode in names for sign in signs[:with_rules]]
                    program = Program(names, values, signs, rules)
                    self.assert_same(program_text(program), told_program(program))
                    self.assertEqual(read_program(program_text(program)), program)

    def test_factors_at_both_bounds(self):
        for factor in (-1000, -1, 0, 1, 1000):
            program = Program(["m"], ["r"], ["s"], [("m", "s", "m", (("r", (("one", factor),)),))])
            self.assert_same(program_text(program), f"modes m\nregisters r\nsigns s\nrule m s m r = {factor}*one\n")
            self.assertEqual(read_program(program_text(program)), program)

    def test_words_of_the_text_may_be_names(self):
        text = "modes rule modes\nregisters signs rule\nsigns modes rule signs\nrule rule rule modes rule = 1*rule\n"
        self.assertEqual(self.check_program(text), "read")
        self.assert_same(program_text(read_program(text)), text)

    def test_lines_that_are_missing(self):
        for text in (CASH, FULL):
            lines = text.splitlines(keepends=True)
            for many_lines in range(len(lines) + 1):
                short = "".join(lines[:many_lines])
                if many_lines < 3:
                    self.assert_refused("InvalidText", [many_lines], read_program, short)
                self.check_program(short)
            for at in range(len(lines)):
                self.check_program("".join(lines[:at] + lines[at + 1:]))
            for at in range(3):
                wrong = "".join(lines[:at] + lines[at + 1:])
                self.assert_refused("InvalidText", [at], read_program, wrong)
        self.assert_refused("InvalidText", [0], read_program, "")
        self.assert_refused("InvalidText", [0], read_program, "\n")
        self.assert_refused("InvalidText", [1], read_program, "modes a\n")
        self.assert_refused("InvalidText", [2], read_program, "modes a\nregisters\n")
        self.assert_refused("InvalidText", [1], read_program, "modes a\n\nsigns x\n")

    def test_lines_that_stand_twice_or_elsewhere(self):
        for text in (CASH, FULL):
            lines = text.splitlines(keepends=True)
            for at, line in enumerate(lines):
                found = self.check_program("".join(lines[:at] + [line] + lines[at:]))
                self.assertEqual(found, "InvalidText" if at < 3 else "DuplicateRule")
                for place in range(len(lines)):
                    moved = lines[:at] + lines[at + 1:]
                    self.check_program("".join(moved[:place] + [line] + moved[place:]))
        self.assert_refused("InvalidText", [3], read_program, "modes a\nregisters\nsigns x\nsigns x\n")
        self.assert_refused("InvalidText", [1], read_program, "modes a\nsigns x\nregisters\n")

    def test_newlines(self):
        for text in (CASH, FULL):
            lines = text.split("\n")[:-1]
            for many_lines in range(1, len(lines) + 1):
                self.assert_refused("InvalidText", [many_lines - 1], read_program, "\n".join(lines[:many_lines]))
            for at in range(len(lines)):
                self.assert_refused("InvalidText", [at], read_program, "\n".join(lines[:at] + [""] + lines[at:]) + "\n")
            self.assert_refused("InvalidText", [len(lines)], read_program, text + "\n")
            self.assert_refused("InvalidText", [len(lines)], read_program, text + " ")
            self.assert_refused("InvalidText", [len(lines)], read_program, text + "rule on x on")
            self.assert_refused("InvalidText", [0], read_program, "\n" + text)

    def test_spaces(self):
        for text in (CASH, FULL):
            lines = text.split("\n")[:-1]
            for at, line in enumerate(lines):
                wrong = [" " + line, line + " "]
                wrong += [line[:place] + " " + line[place:] for place, letter in enumerate(line) if letter == " "]
                for fresh in wrong:
                    told = "\n".join(lines[:at] + [fresh] + lines[at + 1:]) + "\n"
                    self.assert_refused("InvalidText", [at], read_program, told)
                for place, letter in enumerate(line):
                    if letter == " ":
                        fresh = line[:place] + line[place + 1:]
                        self.check_program("\n".join(lines[:at] + [fresh] + lines[at + 1:]) + "\n")

    def test_each_character_changed(self):
        met = {}
        for text in (CASH, FULL):
            for place in range(len(text)):
                for letter in LETTERS:
                    for told in (text[:place] + letter + text[place + 1:], text[:place] + letter + text[place:]):
                        found = self.check_program(told)
                        met[found] = met.get(found, 0) + 1
        for name in ("read", "InvalidText", "InvalidName", "InvalidRule"):
            self.assertGreater(met[name], 3, name)

    def test_words_changed_at_random(self):
        dice = chance(226)
        met = {}
        for _ in range(6000):
            words = re.split(r"([ *;=+\n])", dice.choice([CASH, FULL]))
            for _ in range(dice.randint(1, 2)):
                words[dice.randrange(len(words))] = dice.choice(words + ["-1", "9", "one", ""])
            found = self.check_program("".join(words))
            met[found] = met.get(found, 0) + 1
        for name in ("read", "InvalidText", "InvalidName", "DuplicateName", "InvalidRule", "DuplicateRule"):
            self.assertGreater(met[name], 1, name)

    def test_numbers(self):
        head = "modes m\nregisters r\nsigns s\n"
        for number in NUMBERS:
            text = f"{head}rule m s m r = {number}*r\n"
            if abs(int(number)) <= 1000:
                self.assert_same(read_program(text).rules(), [("m", "s", "m", (("r", (("r", int(number)),)),))])
            else:
                self.assert_refused("InvalidRule", [0], read_program, text)
        for number in NO_NUMBERS:
            for told in (f"{number}*r", f"1*one + {number}*r", f"{number}*r + 1*one", f"1*r; r = {number}*r"):
                self.assert_refused("InvalidText", [3], read_program, f"{head}rule m s m r = {told}\n")
                self.assert_refused("InvalidText", [4], read_program, f"{head}rule m s m\nrule m s m r = {told}\n")

    def test_terms_and_changes(self):
        head = "modes m\nregisters r q\nsigns s\n"
        good = ["", " r = 0", " r = 0; q = 0", " r = 0*r", " r = 1*r + 2*q + 3*one + 4*amount; q = -1*q", " q = 0; r = 1*r"]
        for changes in good:
            self.assertEqual(self.check_program(f"{head}rule m s m{changes}\n"), "read")
        for changes in [" r = 1*r; r = 0", " r = 1*r + 1*r", " x = 0", " r = 1*x", " one = 0", " R = 0", " r = 5000*r",
                        " + = 0", " r = 1*+ + 1*-", " 0 = 0", " r = 1*0"]:
            self.assert_refused("InvalidRule", [0], read_program, f"{head}rule m s m{changes}\n")
        for changes in [" ", " r", " r =", " r = ", " = 0", " r = 0;", " r = 0; ", "; r = 0", " r = 0;q = 0", " r = 0 ; q = 0",
                        " r = 0;  q = 0", " r=0", " r= 0", " r =0", " r == 0", " r = = 0", " r = 0 = 0", " r = 0 + 1*r",
                        " r = 1*r + 0", " r = 1*r +", " r = 1*r + ", " r = + 1*r", " r = 1*r+1*q", " r = 1*r - 1*q",
                        " r = 1*r 1*q", " r = r", " r = r*1", " r = 1 * r", " r = 1*r*r", " r = *r", " r = 1*", " r = 1",
                        " r = 00", " r = -0", " r r = 0", " r* = 0", " r; = 0", " r = 1*r=", " r = 1*;", " r = 0, q = 0"]:
            self.assert_refused("InvalidText", [3], read_program, f"{head}rule m s m{changes}\n")

    def test_rules_that_lack_names(self):
        head = "modes m\nregisters r\nsigns s\n"
        for line in ["", "rule", "rule ", "rule m", "rule m s", "rule m s ", "rul m s m", "rules m s m", "Rule m s m", "m s m",
                     "rule  s m", "rule m  m", "rule m* s m", "rule m s; m", "rule m s m=", "rule m s m;", " rule m s m"]:
            self.assert_refused("InvalidText", [3], read_program, f"{head}{line}\n")
            self.assert_refused("InvalidText", [4], read_program, f"{head}rule m s m\n{line}\nrule m s m\n\n")

    def test_names_that_the_program_refuses(self):
        for name in ["A", "abcdefg", "one", "amount", "a1", "1", "0", "-", "+", "_", ".", "a.b", "a,b", "{", "modes:"]:
            self.assert_refused("InvalidName", [name], read_program, f"modes {name}\nregisters\nsigns s\n")
            self.assert_refused("InvalidName", [name], read_program, f"modes m\nregisters {name}\nsigns s\n")
            self.assert_refused("InvalidName", [name], read_program, f"modes m\nregisters\nsigns s {name}\n")
            for rule in (f"rule {name} s m", f"rule m {name} m", f"rule m s {name}", f"rule m s m {name} = 0"):
                self.assert_refused("InvalidRule", [0], read_program, f"modes m\nregisters\nsigns s\n{rule}\n")
        for name in ["*", "a*b", ";", "a;", "=", "a=b", "=a"]:
            for at, line in enumerate(["modes m", "registers r", "signs s", "rule m s m"]):
                for fresh in (f"{line} {name}", line[:-1] + name):
                    lines = ["modes m", "registers r", "signs s", "rule m s m"]
                    lines[at] = fresh
                    self.assert_refused("InvalidText", [at], read_program, "\n".join(lines) + "\n")

    def test_other_errors_of_the_program(self):
        self.assert_refused("InvalidCount", [0], read_program, "modes\nregisters\nsigns s\n")
        self.assert_refused("InvalidCount", [0], read_program, "modes m\nregisters\nsigns\n")
        self.assert_refused("InvalidCount", [5], read_program, "modes a b c d e\nregisters\nsigns s\n")
        self.assert_refused("DuplicateName", ["s"], read_program, "modes m\nregisters\nsigns s s\n")
        self.assert_refused("TooWide", [8], read_program, "modes a b c\nregisters p q\nsigns s\n")
        self.assert_refused("DuplicateRule", [1], read_program, "modes m\nregisters\nsigns s\nrule m s m\nrule m s m\n")
        self.assert_refused("InvalidRule", [1], read_program, "modes m\nregisters\nsigns s\nrule m s m\nrule m t m\n")
        # All lines are read ahead of them.
        self.assert_refused("InvalidText", [4], read_program, "modes A\nregisters\nsigns s\nrule m t m\nrule\n")
        self.assert_refused("InvalidText", [3], read_program, "modes\nregisters one\nsigns s s\nrule m t m")

    def test_values_that_are_no_strings(self):
        for value in NO_STRINGS:
            self.assert_refused("InvalidText", [0], read_program, value)
        for value in ODD:
            self.check_program(value)

    def test_by_name(self):
        self.assertEqual(read_program(text=CASH), cash())
        self.assert_same(program_text(program=cash()), CASH)


class EventTexts(Reading):
    def test_by_hand(self):
        self.assert_same(events_text([("pay", 3), ("reset", 0), ("pay", -20)]), "pay 3\nreset 0\npay -20\n")
        self.assert_same(read_events("pay 3\nreset 0\npay -20\n"), [("pay", 3), ("reset", 0), ("pay", -20)])
        for events in ([], ()):
            self.assert_same(events_text(events), "")
        self.assert_same(read_events(""), [])

    def test_there_and_back(self):
        dice = chance(227)
        for _ in range(60):
            events = some_events(dice, some_program(dice), 30)
            text = events_text(events)
            self.assert_same(text, "".join(sign + " " + str(amount) + "\n" for sign, amount in events))
            self.assert_same(events_text(tuple(events)), text)
            self.assert_same(read_events(text), events)

    def test_amounts_that_no_event_has(self):
        for amount in (10 ** 12 + 1, -(10 ** 12) - 1, 10 ** 60 - 1, 1 - 10 ** 60):
            self.assert_same(read_events(events_text([("pay", amount), ("x", 0)])), [("pay", amount), ("x", 0)])

    def test_numbers(self):
        for number in NUMBERS:
            self.assert_same(read_events(f"a 1\nb {number}\n"), [("a", 1), ("b", int(number))])
        for number in NO_NUMBERS:
            self.assert_refused("InvalidText", [1], read_events, f"a 1\nb {number}\nc 2\n")
            self.assert_refused("InvalidText", [0], read_events, f"b {number}\nb {number}")

    def test_signs_that_no_program_has(self):
        for sign in ["A", "abcdefg", "one", "amount", "1", "0", "-", "+", "a1", "{}", "a" * 600, "modes", "rule"]:
            self.assert_same(read_events(f"{sign} 5\n"), [(sign, 5)])
        for sign in ["", " ", "*", "a*", ";", "a;b", "=", "a=", "a b", " a", "a "]:
            self.assert_refused("InvalidText", [0], read_events, f"{sign} 5\n")
            self.assert_refused("InvalidText", [2], read_events, f"a 1\na 1\n{sign} 5\n\n")

    def test_lines(self):
        text = "pay 3\nreset 0\npay -20\n"
        lines = text.split("\n")[:-1]
        for at, line in enumerate(lines):
            for wrong in ["", " ", line + " ", " " + line, line.replace(" ", "  "), line.replace(" ", ""), line + " 1", "pay",
                          line + ";", "3 pay", "pay pay", "pay +3"]:
                told = "\n".join(lines[:at] + [wrong] + lines[at + 1:]) + "\n"
                self.assert_refused("InvalidText", [at], read_events, told)
            self.assert_refused("InvalidText", [at], read_events, "\n".join(lines[:at + 1]))
            self.assert_refused("InvalidText", [at], read_events, "\n".join(lines[:at] + [""] + lines[at:]) + "\n")
            self.assert_same(len(read_events("\n".join(lines[:at] + [line] + lines[at:]) + "\n")), 4)
        for wrong in ("\n", " ", "\n\n", " \n", "a", "5", "a 5"):
            self.assert_refused("InvalidText", [0], read_events, wrong)
            self.assert_refused("InvalidText", [3], read_events, text + wrong)

    def test_each_character_changed(self):
        text = "pay 3\nreset 0\npay -20\n"
        met = {}
        for place in range(len(text)):
            for letter in LETTERS:
                for told in (text[:place] + letter + text[place + 1:], text[:place] + letter + text[place:]):
                    found = self.check_events(told)
                    met[found] = met.get(found, 0) + 1
        self.assertGreater(min(met["read"], met["InvalidText"]), 100)

    def test_values_that_are_no_strings(self):
        for value in NO_STRINGS:
            self.assert_refused("InvalidText", [0], read_events, value)
        for value in ODD:
            self.check_events(value)

    def test_the_list_is_new(self):
        events = [("pay", 3)]
        self.assert_same((events_text(events), events), ("pay 3\n", [("pay", 3)]))
        read_events("pay 3\n").clear()
        self.assert_same(read_events("pay 3\n"), [("pay", 3)])

    def test_by_name(self):
        self.assert_same(read_events(text="pay 3\n"), [("pay", 3)])
        self.assert_same(events_text(events=[("pay", 3)]), "pay 3\n")
