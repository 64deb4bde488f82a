"""What several tests share: odd values, sample programs, lists of events for them and a check for refusals."""

import random
import unittest

from twinbegun.programs import Program

FIELDS = {
    "InvalidName": ("given",),
    "DuplicateName": ("name",),
    "InvalidCount": ("given",),
    "TooWide": ("most",),
    "InvalidRule": ("index",),
    "DuplicateRule": ("index",),
    "InvalidState": (),
    "InvalidEvent": ("index",),
    "InvalidRow": (),
    "InvalidPlace": ("given",),
    "InvalidLevel": ("given",),
    "InvalidRange": ("first", "last"),
    "InvalidEdit": ("index",),
    "InvalidLook": ("index",),
    "SignsDiffer": (),
    "InvalidPending": ("given",),
    "InvalidLimit": ("given",),
    "InvalidCommand": ("index",),
    "InvalidText": ("line",),
    "Full": ("most",),
    "UnknownName": ("name",),
    "NothingLeft": (),
}


def nested(kind, depth, inner):
    """The inner value in so many lists, or tuples."""
    for _ in range(depth):
        inner = kind([inner])
    return inner


# None of these is a name, a state, an event, a rule or a row of any program.
ODD = [
    0, 1, -1, 2, 10 ** 12, 10 ** 12 + 1, -(10 ** 12) - 1, 10 ** 599, -(10 ** 599),
    True, False, None,
    "", " ", "\n", "A", "On", "ON", "a1", "a_b", "a b", " a", "a ", "a\n", "\na", "a-b", "a.b", "1", "0",
    "abcdefg", "a" * 6000, "amount", "one", "{", "`", "~", "*", "a*b",
    [], (), [[]], ((),), [()], ([],), ["on"], [1, 2], ["a", "b"], [None], [True],
    (None,), (True, False), (None, None), ("", ()), ("", 0), (1, 2, 3, None), (None, None, None, None),
    nested(list, 10, 0), nested(tuple, 10, 0), nested(list, 10, "a"), nested(tuple, 9, ["a"]), nested(list, 9, (True,)),
]


# Events for drops(); the heights of the places are 3, 0, 1, 0, 2 and 1.
STEPS = [("add", 1), ("noa", 0), ("add", 2), ("nob", 0), ("noa", 0)]


def cash():
    """The program of the examples in the document."""
    return Program(["on"], ["cash"], ["pay", "reset"], [
        ("on", "pay", "on", (("cash", (("cash", 1), ("amount", 1))),)),
        ("on", "reset", "on", (("cash", ()),)),
    ])


def lights():
    """Two modes and three registers, the greatest width; some modes and signs have no rule."""
    return Program(["on", "off"], ["a", "b", "on"], ["swap", "off", "sum", "on"], [
        ("on", "swap", "on", (("a", (("b", 1),)), ("b", (("a", 1),)))),
        ("on", "off", "off", ()),
        ("off", "on", "on", (("on", (("on", 2), ("one", -3), ("amount", 1000))),)),
        ("off", "sum", "off", (("a", (("a", 1), ("b", 1), ("on", -1000))), ("b", ()), ("on", (("one", 7),)))),
        ("on", "sum", "off", (("b", (("amount", -2), ("one", 0))),)),
    ])


def letters():
    """Four modes, a register and six signs; every second pair of a mode and a sign has a rule."""
    modes = ["a", "b", "c", "d"]
    signs = ["e", "f", "g", "h", "i", "abcdef"]
    rules = []
    for at, mode in enumerate(modes):
        for index, sign in enumerate(signs):
            if (at + index) % 2 == 0:
                behind = modes[(at * index + 1) % 4]
                rules.append((mode, sign, behind, (("r", (("r", index - 2), ("one", at), ("amount", 1 - index))),)))
    return Program(modes, ["r"], signs, rules)


def bare():
    """Four modes without registers."""
    return Program(["a", "b", "c", "d"], [], ["go", "back"], [
        ("a", "go", "b", ()), ("b", "go", "c", ()), ("c", "go", "d", ()), ("d", "back", "a", ()),
    ])


def many():
    """One mode and four registers."""
    return Program(["m"], ["p", "q", "r", "s"], ["mix", "zero"], [
        ("m", "mix", "m", (
            ("s", (("p", 1), ("q", 2))),
            ("p", (("q", 3), ("s", -1), ("amount", 5))),
            ("q", (("one", 4), ("q", 1000))),
        )),
        ("m", "zero", "m", (("r", ()), ("p", (("r", 1),)))),
    ])


def drops():
    """One mode and two registers, each of which can be forgotten."""
    return Program(["on"], ["a", "b"], ["add", "noa", "nob"], [
        ("on", "add", "on", (("a", (("a", 1), ("amount", 1))), ("b", (("b", 2), ("a", 1))))),
        ("on", "noa", "on", (("a", ()),)),
        ("on", "nob", "on", (("b", ()),)),
    ])


def keeps():
    """Two modes and two registers; no event forgets anything."""
    return Program(["on", "off"], ["a", "b"], ["go", "mix", "swap"], [
        ("on", "go", "off", ()), ("off", "go", "on", (("a", (("a", -3), ("one", 5))),)),
        ("on", "mix", "on", (("a", (("a", 1), ("b", 2), ("amount", -7))),)),
        ("off", "mix", "off", (("b", (("a", 4), ("b", 1))),)),
        ("on", "swap", "on", (("a", (("b", 1),)), ("b", (("a", 1),)))),
    ])


def samples():
    """Programs of different shapes."""
    return [cash(), lights(), letters(), bare(), many(), Program.idle("a", "b")]


def chance(seed):
    """The same random numbers in each run."""
    return random.Random(seed)


def some_program(dice):
    """A random program."""
    names = ["a", "b", "c", "d", "abcdef", "amoun", "ones", "on"]
    count = dice.randint(1, 4)
    modes = dice.sample(names, count)
    registers = dice.sample(names, dice.randint(0, min(4, 8 // count - 1)))
    signs = dice.sample(names, dice.randint(1, 6))
    rules = []
    for mode in modes:
        for sign in signs:
            if dice.random() < 0.8:
                rules.append((mode, sign, dice.choice(modes), some_changes(dice, registers)))
    dice.shuffle(rules)
    return Program(modes, registers, signs, rules)


def some_changes(dice, registers):
    """Random changes of a rule."""
    sources = registers + ["amount", "one"]
    changes = []
    for target in dice.sample(registers, dice.randint(0, len(registers))):
        chosen = dice.sample(sources, dice.randint(0, len(sources)))
        changes.append((target, tuple((source, dice.choice([-1000, -2, -1, 0, 1, 2, 3, 1000])) for source in chosen)))
    return tuple(changes)


def some_state(dice, program):
    """A random state of a program."""
    size = dice.choice([1, 9, 10 ** 30])
    return dice.choice(program.modes()), tuple(dice.randint(-size, size) for _ in program.registers())


def some_event(dice, program):
    """A random event of a program."""
    size = dice.choice([0, 1, 9, 10 ** 12])
    return dice.choice(program.signs()), dice.randint(-size, size)


def some_events(dice, program, most=8):
    """A random list of events of a program."""
    return [some_event(dice, program) for _ in range(dice.randint(0, most))]


def some_logs(seed, many, most=14):
    """Random pairs of a program and a list of events."""
    dice = chance(seed)
    for _ in range(many):
        program = some_program(dice)
        yield program, some_events(dice, program, most)


def sample_logs(seed, lengths=(0, 1, 2, 9, 25)):
    """Pairs of each sample program, and of those that forget step by step or never, and random lists of events."""
    dice = chance(seed)
    for program in [*samples(), drops(), keeps()]:
        for length in lengths:
            yield program, [some_event(dice, program) for _ in range(length)]


def pairs(size):
    """All pairs of a first and a last place of a log with so many events."""
    return [(first, last) for first in range(size + 1) for last in range(first, size + 1)]


def beyond(least, most):
    """Values that are no integers from least to most: odd ones, and the next ones beyond both ends."""
    values = ODD + [least - 1, most + 1, -most - 1, (least,), [least], str(least), (least, most), [[most]]]
    return [value for value in values if type(value) is not int or not least <= value <= most]


def moved(program, state, event):
    """What the document says that an event makes of a state, read off the rules only."""
    mode, values = state
    sign, amount = event
    for rule in program.rules():
        if rule[:2] == (mode, sign):
            ahead = dict(zip(program.registers(), values))
            behind = dict(ahead)
            ahead.update({"amount": amount, "one": 1})
            for target, terms in rule[3]:
                total = 0
                for source, factor in terms:
                    total += ahead[source] * factor
                behind[target] = total
            return rule[2], tuple(behind[name] for name in program.registers())
    return state


class Checks(unittest.TestCase):
    """A test case that knows refusals and plain equality."""

    def assert_same(self, found, wanted):
        """Equal and of the same kinds throughout: 1 is not True, a tuple is no list."""
        self.assertEqual(found, wanted)
        self.assertEqual(repr(found), repr(wanted))

    def assert_refused(self, name, told, call, *args, **named):
        """The call raises the error with this name, and its attributes are those told, in order."""
        try:
            call(*args, **named)
        except Exception as error:
            self.assertEqual(type(error).__name__, name, f"{args} {named}")
            self.assertEqual(type(error).__module__, "twinbegun.errors")
            self.assert_same(error.code, name)
            self.assert_same([getattr(error, field) for field in FIELDS[name]], list(told))
        else:
            self.fail(f"no {name} for {args} {named}")
