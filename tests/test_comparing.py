"""Promises 18 and 19: compare and are_alike, the papers that they find, and same_effect."""

from itertools import product

from twinbegun.comparing import Alike, Apart, are_alike, compare, same_effect
from twinbegun.logs import KeptLog
from twinbegun.probes import Probe
from twinbegun.programs import Program
from tests.checks import (
    STEPS, Checks, bare, beyond, cash, chance, drops, lights, moved, pairs, sample_logs, samples, some_events, some_logs,
    some_program,
)
from tests.plain import Pair, Stretches
from tests.test_probes import some_probes

MOST = 10 ** 12


def ring(size, seen, names="abcd"):
    """So many modes that follow each other; the value is 1 in the modes that are seen, and 0 in the others."""
    modes = list(names[:size])
    rules = [(mode, "go", modes[(at + 1) % size], ()) for at, mode in enumerate(modes)]
    return Probe(Program(modes, [], ["go"], rules), (modes[0], ()), [(modes[at], (("one", 1),)) for at in seen])


def line(size, factor=1):
    """Registers that hand on their values, the last one a 1 and then zeros; the value is that of the first one."""
    names = ["a", "b", "c", "d"][:size]
    changes = tuple((name, ((behind, 1),)) for name, behind in zip(names, names[1:])) + ((names[-1], ()),)
    program = Program(["m"], names, ["go"], [("m", "go", "m", changes)])
    return Probe(program, ("m", (0,) * (size - 1) + (1,)), [("m", (("a", factor),))])


def paid(changes, start=(0,), registers=("cash",), look=(("cash", 1),)):
    """A probe of one mode, in which `pay` and `reset` do the given changes."""
    rules = [("on", sign, "on", tuple(changes[sign])) for sign in changes]
    return Probe(Program(["on"], registers, ["pay", "reset"], rules), ("on", start), [("on", look)])


PAY = (("cash", (("cash", 1), ("amount", 1))),)
NONE = (("cash", ()),)


def renamed(probe, letters):
    """The same probe with other names of the modes and the registers, each behind the letter that is told."""
    program = probe.program
    mode_of = {name: (letters + name)[:6] for name in program.modes()}
    name_of = {name: (letters + name)[:6] for name in program.registers()}
    kept = {**name_of, "amount": "amount", "one": "one"}
    rules = [
        (mode_of[mode], sign, mode_of[behind], tuple(
            (name_of[target], tuple((kept[source], factor) for source, factor in terms)) for target, terms in changes))
        for mode, sign, behind, changes in program.rules()
    ]
    fresh = Program(list(mode_of.values()), list(name_of.values()), program.signs(), rules)
    look = [(mode_of[mode], tuple((kept[source], factor) for source, factor in terms)) for mode, terms in probe.look()]
    return Probe(fresh, (mode_of[probe.start[0]], probe.start[1]), look)


def shuffled(dice, probe):
    """The same probe with other orders of modes, registers, signs, rules, changes, terms and pairs."""
    program = probe.program
    modes, registers, signs, rules = [dice.sample(names, len(names)) for names in (
        program.modes(), program.registers(), program.signs(), program.rules())]
    rules = [(*rule[:3], tuple(dice.sample(
        [(target, tuple(dice.sample(terms, len(terms)))) for target, terms in rule[3]], len(rule[3])))) for rule in rules]
    values = dict(zip(program.registers(), probe.start[1]))
    start = (probe.start[0], tuple(values[name] for name in registers))
    look = [(mode, tuple(dice.sample(terms, len(terms)))) for mode, terms in probe.look()]
    return Probe(Program(modes, registers, signs, rules), start, dice.sample(look, len(look)))


def doubled(probe):
    """The same probe with a second register that has the value of the only one, and a look at both."""
    program = probe.program
    name = program.registers()[0]
    rules = [(*rule[:3], rule[3] + tuple(("copy", terms) for _, terms in rule[3])) for rule in program.rules()]
    look = []
    for mode, terms in probe.look():
        kept = dict(terms)
        factor = kept.pop(name, 0)
        look.append((mode, (*kept.items(), (name, 3), ("copy", factor - 3))))
    fresh = Program(program.modes(), [name, "copy"], program.signs(), rules)
    return Probe(fresh, (probe.start[0], probe.start[1] * 2), look)


def alike_pairs():
    """Pairs of probes that are alike, and why."""
    dice = chance(191)
    for program, start, look in some_probes(192, 25):
        probe = Probe(program, start, look)
        yield "the same program", probe, probe
        yield "an equal program", probe, Probe(Program(*parts(program)), start, look)
        yield "other orders", probe, shuffled(dice, probe)
        if all(len(name) < 6 for name in program.modes() + program.registers()):
            yield "other names", probe, renamed(probe, "z")
            yield "other names and orders", shuffled(dice, renamed(probe, "y")), probe
        if len(program.registers()) == 1 and len(program.modes()) < 3:
            yield "more registers", probe, doubled(probe)
    yield "rings", ring(4, [1, 3]), ring(2, [1])
    yield "rings", ring(4, [0, 1, 2, 3]), ring(1, [0])
    yield "rings", ring(3, [0, 1, 2]), ring(4, [0, 1, 2, 3])
    yield "rings", ring(3, []), ring(2, [])
    yield "rings", ring(4, [0, 2]), ring(2, [0], "xy")
    yield "no look", lights_probe([]), Probe(Program(["m"], [], lights().signs()), ("m", ()), [])


def parts(program):
    """The lists that a program is made of."""
    return program.modes(), program.registers(), program.signs(), program.rules()


def lights_probe(look):
    return Probe(lights(), ("on", (1, 2, 3)), look)


def apart_pairs():
    """Triples of two probes that are not alike and the number of events that part them."""
    forgetful = paid({"pay": PAY, "reset": NONE})
    yield forgetful, paid({"pay": PAY}), 2
    yield forgetful, paid({"pay": PAY, "reset": NONE}, (1,)), 0
    yield forgetful, paid({"reset": NONE}), 1
    yield forgetful, paid({"pay": (("cash", (("cash", 1), ("amount", 2))),), "reset": NONE}), 1
    yield forgetful, paid({"pay": (("cash", (("cash", 1), ("one", 1))),), "reset": NONE}), 1
    yield forgetful, paid({"pay": PAY, "reset": (("cash", (("amount", 1),)),)}), 1
    yield forgetful, paid({"pay": PAY, "reset": NONE}, look=(("cash", 1), ("one", 1))), 0
    yield forgetful, paid({"pay": PAY, "reset": NONE}, look=(("cash", 2),)), 1
    yield forgetful, paid({"pay": PAY, "reset": NONE}, look=()), 1
    late = (("cash", (("kept", 1),)), ("kept", (("amount", 1),)))
    yield paid({"pay": late}, (0, 0), ("cash", "kept")), paid({}), 2
    yield paid({"pay": late}, (0, 0), ("cash", "kept")), paid({"pay": PAY}), 1
    yield ring(2, [1]), ring(3, [1]), 3
    yield ring(3, [2]), ring(4, [3]), 2
    yield ring(4, [0]), ring(3, [0]), 3
    yield ring(4, [3]), ring(2, []), 3
    yield line(4), line(4, 2), 3
    yield line(4), ring(1, []), 3
    yield line(3), line(2), 1
    yield ring(4, [0, 1, 2]), ring(3, [0, 1, 2]), 3
    yield ring(4, [0, 1, 2]), ring(4, [0, 1, 3]), 2
    yield line(4), ring(4, [3]), 7


class Compared(Checks):
    def holds(self, found, kind, one, other):
        """The paper is of this kind, of these probes, and holds by the definition."""
        self.assertIs(type(found), kind)
        self.assertIs(found.one, one)
        self.assertIs(found.other, other)
        self.assertIs(found.holds(), True)
        pair = Pair(one, other, moved)
        if kind is Alike:
            self.assert_same((found.told(), bool(found), repr(found)), ("alike", True, "Alike(alike)"))
            self.assertTrue(pair.alike_holds(found.logs()))
        else:
            self.assert_same((found.told(), bool(found), repr(found)), ("apart", False, "Apart(apart)"))
            self.assertTrue(pair.apart_holds(found.events()))

    def test_pairs_that_are_alike(self):
        dice = chance(193)
        met = set()
        for why, one, other in alike_pairs():
            for mine, theirs in ((one, other), (other, one)):
                self.holds(compare(mine, theirs), Alike, mine, theirs)
                self.assertIs(are_alike(mine, theirs), True)
            for _ in range(4):
                events = some_events(dice, one.program)
                self.assertEqual(one.value(events), other.value(events))
            met.add(why)
        self.assertEqual(len(met), 8)

    def test_pairs_that_are_not_alike(self):
        for one, other, size in apart_pairs():
            for mine, theirs in ((one, other), (other, one)):
                found = compare(mine, theirs)
                self.holds(found, Apart, mine, theirs)
                self.assertEqual(len(found.events()), size)
                self.assertIs(are_alike(mine, theirs), False)
                self.shorter_ones_are_alike(mine, theirs, size, (0, 1, MOST, -MOST))

    def shorter_ones_are_alike(self, one, other, size, amounts):
        """No list of fewer events parts the probes."""
        pair = Pair(one, other, moved)
        for many in range(size):
            for events in product(pair.steps(amounts), repeat=many):
                self.assertEqual(*pair.values(events))

    def test_random_pairs(self):
        dice = chance(194)
        met = {}
        for program, start, look in some_probes(195, 60):
            one = Probe(program, start, look)
            changed = [(mode, tuple((source, factor + dice.choice([0, 0, 0, 1])) for source, factor in terms))
                       for mode, terms in look]
            changed = [pair for pair in changed if all(abs(factor) <= 1000 for _, factor in pair[1])]
            rules = [rule for rule in program.rules() if dice.random() < 0.9]
            other = Program(program.modes(), program.registers(), program.signs(), rules)
            for theirs in (Probe(program, start, changed), Probe(other, start, look)):
                found = compare(one, theirs)
                self.holds(found, Alike if found else Apart, one, theirs)
                self.assertIs(are_alike(one, theirs), bool(found))
                size = len(found.events()) if not found else 2
                if len(program.signs()) < 4 or size < 3:
                    self.shorter_ones_are_alike(one, theirs, min(size, 4), (0, 1))
                if not found:
                    self.assertLess(size, program.width + other.width)
                    self.assertTrue(all(program.is_event(event) for event in found.events()))
                met[found.told(), min(size, 2)] = met.get((found.told(), min(size, 2)), 0) + 1
        self.assertEqual(set(met), {("alike", 2), ("apart", 0), ("apart", 1), ("apart", 2)})

    def test_programs_that_have_nothing_in_common_but_the_signs(self):
        dice = chance(196)
        for _ in range(25):
            one, other = some_program(dice), some_program(dice)
            other = Program(other.modes(), other.registers(), dice.sample(one.signs(), len(one.signs())), [])
            mine = Probe(one, one.first_state(), [(one.modes()[-1], (("one", 1),))])
            theirs = Probe(other, other.first_state(), [])
            found = compare(mine, theirs)
            self.holds(found, Alike if found else Apart, mine, theirs)
            self.assertIs(are_alike(theirs, mine), bool(found))

    def test_signs_in_another_order(self):
        rules = cash().rules()
        one = Probe(cash(), ("on", (0,)), [("on", (("cash", 1),))])
        other = Probe(Program(["on"], ["cash"], ["reset", "pay"], rules), ("on", (0,)), one.look())
        self.holds(compare(one, other), Alike, one, other)
        turned = [("on", "reset", *rules[0][2:]), ("on", "pay", *rules[1][2:])]
        third = Probe(Program(["on"], ["cash"], ["reset", "pay"], turned), ("on", (0,)), one.look())
        self.holds(compare(one, third), Apart, one, third)
        self.assertEqual(len(compare(one, third).events()), 1)

    def test_a_list_of_many_events(self):
        # The line has its 1 behind 3 events alone, the ring behind 3, 7 and so on: 7 events part them, and no others.
        one, other = line(4), ring(4, [3])
        self.assert_same([one.value([("go", 0)] * size) for size in range(8)], [0, 0, 0, 1, 0, 0, 0, 0])
        self.assert_same([other.value([("go", 0)] * size) for size in range(8)], [0, 0, 0, 1, 0, 0, 0, 1])
        self.assert_same([sign for sign, _ in compare(one, other).events()], ["go"] * 7)

    def test_wide_programs(self):
        dice = chance(197)
        for _ in range(3):
            program = lights()
            start = ("on", tuple(dice.randint(-9, 9) for _ in range(3)))
            one = Probe(program, start, [("on", (("a", 1), ("b", -2))), ("off", (("on", 3), ("one", 1)))])
            other = shuffled(dice, one)
            self.holds(compare(one, other), Alike, one, other)
            theirs = Probe(other.program, other.start, [("on", (("a", 1), ("b", -2))), ("off", (("on", 3),))])
            self.holds(compare(one, theirs), Apart, one, theirs)

    def test_other_signs(self):
        one = Probe(cash(), ("on", (0,)), [])
        for signs in (["pay"], ["pay", "reset", "more"], ["pay", "resets"], ["a"], ["reset"], ["a", "b"]):
            other = Probe(Program(["on"], ["cash"], signs), ("on", (0,)), [])
            for mine, theirs in ((one, other), (other, one)):
                self.assert_refused("SignsDiffer", [], compare, mine, theirs)
                self.assert_refused("SignsDiffer", [], are_alike, mine, theirs)

    def test_equal_calls(self):
        for one, other, _ in apart_pairs():
            self.assert_same(compare(one, other).events(), compare(one, other).events())
        for _, one, other in alike_pairs():
            self.assert_same(compare(one, other).logs(), compare(one, other).logs())
            self.assertTrue(all(type(log) is list for log in compare(one, other).logs()))

    def test_by_name(self):
        one = paid({"pay": PAY})
        other = paid({"pay": PAY, "reset": NONE})
        found = compare(other=other, one=one)
        self.assertIs(found.one, one)
        self.assertIs(found.other, other)
        self.assert_same((found.told(), are_alike(other=one, one=other), are_alike(other=one, one=one)),
                         ("apart", False, True))


class Effects(Checks):
    def test_by_the_tables(self):
        dice = chance(198)
        met = {True: 0, False: 0}
        for program, events in [*sample_logs(198, (0, 1, 2, 6)), *some_logs(198, 40, 6)]:
            log = KeptLog(program, events)
            plain = Stretches(program, events)
            others = dice.sample(events, len(events))
            other = KeptLog(Program(*parts(program)), others)
            plain_other = Stretches(program, others)
            for first, last in pairs(len(events)):
                for start, end in dice.sample(pairs(len(events)), min(6, len(pairs(len(events))))):
                    for fellow, tables in ((log, plain), (other, plain_other)):
                        wanted = plain.table(first, last) == tables.table(start, end)
                        self.assertIs(same_effect(log, first, last, fellow, start, end), wanted)
                        self.assertIs(same_effect(fellow, start, end, log, first, last), wanted)
                        met[wanted] += 1
            self.assert_same((log.events(), log.worked, other.events()), (events, len(events), others))
        self.assertGreater(min(met.values()), 200)

    def test_by_hand(self):
        one = KeptLog(cash(), [("pay", 3), ("reset", 0), ("pay", 2)])
        other = KeptLog(cash(), [("reset", 9), ("pay", 1), ("pay", 1)])
        self.assertIs(same_effect(one, 0, 3, other, 0, 3), True)
        self.assertIs(same_effect(one, 1, 3, other, 0, 3), True)
        self.assertIs(same_effect(one, 0, 2, other, 0, 1), True)
        self.assertIs(same_effect(one, 2, 3, other, 1, 3), True)
        self.assertIs(same_effect(one, 2, 3, other, 0, 3), False)
        self.assertIs(same_effect(one, 0, 3, other, 0, 2), False)
        self.assertIs(same_effect(one, 2, 2, other, 1, 1), True)
        self.assertIs(same_effect(one, 1, 1, one, 1, 2), False)
        self.assertIs(same_effect(KeptLog(cash()), 0, 0, one, 3, 3), True)

    def test_the_mode_alone(self):
        log = KeptLog(bare(), [("go", 0), ("back", 0), ("go", 1), ("back", 5), ("go", 0)])
        self.assertIs(same_effect(log, 0, 1, log, 2, 3), True)
        self.assertIs(same_effect(log, 0, 1, log, 1, 2), False)
        self.assertIs(same_effect(log, 1, 2, log, 3, 4), True)

    def test_a_log_that_was_changed_in_between(self):
        one = KeptLog(cash(), [("pay", 3)])
        other = KeptLog(cash(), [("pay", 1)])
        self.assertIs(same_effect(one, 0, 1, other, 0, 1), False)
        other.put(("pay", 2))
        self.assertIs(same_effect(one, 0, 1, other, 0, 2), True)
        one.cut(0)
        one.put(("pay", 1))
        self.assertIs(same_effect(one, 0, 1, other, 0, 1), True)
        self.assert_refused("InvalidRange", [0, 2], same_effect, one, 0, 2, other, 0, 2)

    def test_the_errors_in_their_order(self):
        log = KeptLog(drops(), STEPS)
        same = KeptLog(drops(), STEPS[:3])
        for other in (same, KeptLog(cash(), [("pay", 1)] * 3)):
            for value in beyond(0, 5):
                self.assert_refused("InvalidRange", [value, 5], same_effect, log, value, 5, other, 9, 9)
                self.assert_refused("InvalidRange", [0, value], same_effect, log, 0, value, other, 0, 3)
            for value in beyond(0, 3):
                self.assert_refused("InvalidRange", [value, 3], same_effect, log, 0, 5, other, value, 3)
                self.assert_refused("InvalidRange", [0, value], same_effect, log, 0, 5, other, 0, value)
            self.assert_refused("InvalidRange", [3, 2], same_effect, log, 3, 2, other, 2, 1)
            self.assert_refused("InvalidRange", [2, 1], same_effect, log, 2, 3, other, 2, 1)

    def test_programs_that_are_not_equal(self):
        log = KeptLog(drops(), STEPS)
        for program in samples():
            other = KeptLog(program, [(program.signs()[0], 0)])
            for first, last in ((0, 0), (0, 1), (1, 1)):
                self.assert_refused("SignsDiffer", [], same_effect, log, 0, 5, other, first, last)
                self.assert_refused("SignsDiffer", [], same_effect, other, first, last, log, 0, 0)
        # The same signs are not enough: the programs must be equal, in the orders of their names, too.
        rules = cash().rules()
        for program in (Program(["on"], ["cash"], ["reset", "pay"], rules), Program(["on"], ["cash"], ["pay", "reset"]),
                        Program(["on"], ["cash"], ["pay", "reset"], rules[::-1])):
            self.assert_refused("SignsDiffer", [], same_effect, KeptLog(cash()), 0, 0, KeptLog(program), 0, 0)

    def test_by_name(self):
        log = KeptLog(cash(), [("pay", 3), ("reset", 0), ("pay", 2)])
        self.assertIs(same_effect(to_place=2, from_place=1, other=log, last=2, first=0, log=log), True)
        self.assertIs(same_effect(to_place=3, from_place=1, other=log, last=2, first=0, log=log), False)
