"""Programs: what each event of a log does to a mode and a few registers."""

from twinbegun.errors import (
    DuplicateName,
    DuplicateRule,
    InvalidCount,
    InvalidEvent,
    InvalidName,
    InvalidRule,
    InvalidState,
    TooWide,
    UnknownName,
)

LETTERS = "abcdefghijklmnopqrstuvwxyz"
MOST_LETTERS = 6
AMOUNT = "amount"
ONE = "one"
MOST_MODES = 4
MOST_REGISTERS = 4
MOST_SIGNS = 6
MOST_AMOUNT = 1000000000000
MOST_FACTOR = 1000


def is_whole(value):
    """Whether any value is an integer, of any size."""
    # True and False are integers for Python, but not for the package.
    return isinstance(value, int) and not isinstance(value, bool)


def is_integer(value, least, most):
    """Whether any value is an integer from least to most."""
    return is_whole(value) and least <= value <= most


def is_list(value):
    """Whether any value may stand where a list is wanted."""
    return isinstance(value, (list, tuple))


def is_name(value):
    """Whether any value is a name."""
    if not isinstance(value, str) or not 1 <= len(value) <= MOST_LETTERS:
        return False
    return value not in (AMOUNT, ONE) and all([letter in LETTERS for letter in value])


def are_pairs(value, names):
    """Whether any value is a tuple of pairs that begin with different ones of the names."""
    if not isinstance(value, tuple):
        return False
    seen = []
    for item in value:
        if not isinstance(item, tuple) or len(item) != 2:
            return False
        if item[0] not in names or item[0] in seen:
            return False
        seen.append(item[0])
    return True


def are_terms(value, sources):
    """Whether any value is a tuple of pairs of different sources and factors."""
    return are_pairs(value, sources) and all([is_integer(term[1], -MOST_FACTOR, MOST_FACTOR) for term in value])


def is_rule(value, modes, registers, signs):
    """Whether any value is a rule for these names."""
    if not isinstance(value, tuple) or len(value) != 4:
        return False
    mode, sign, behind, changes = value
    if mode not in modes or sign not in signs or behind not in modes:
        return False
    sources = [*registers, AMOUNT, ONE]
    return are_pairs(changes, registers) and all([are_terms(change[1], sources) for change in changes])


def check_names(names):
    """Refuses a value that is no list of names."""
    if not is_list(names):
        raise InvalidName(names)
    for name in names:
        if not is_name(name):
            raise InvalidName(name)


def check_different(names):
    """Refuses names of which one stands twice."""
    for index, name in enumerate(names):
        if name in names[:index]:
            raise DuplicateName(name)


def check_count(names, least, most):
    """Refuses too few and too many names."""
    if not least <= len(names) <= most:
        raise InvalidCount(len(names))


def check_rules(rules, modes, registers, signs):
    """Refuses a value that is no list of rules for these names, with at most one for each mode and sign."""
    if not is_list(rules):
        raise InvalidRule(0)
    for index, rule in enumerate(rules):
        if not is_rule(rule, modes, registers, signs):
            raise InvalidRule(index)
    seen = []
    for index, rule in enumerate(rules):
        if rule[:2] in seen:
            raise DuplicateRule(index)
        seen.append(rule[:2])


def check_state(program, value):
    """Refuses a value that is no state of the program."""
    if not program.is_state(value):
        raise InvalidState()


def check_events(program, events):
    """Refuses a value that is no list of events of the program."""
    if not is_list(events):
        raise InvalidEvent(0)
    for index, event in enumerate(events):
        if not program.is_event(event):
            raise InvalidEvent(index)


class Program:
    """Modes, registers, signs, and at most one rule for each mode and sign; it never changes."""

    MOST_WIDTH = 8

    def __init__(self, modes, registers, signs, rules=()):
        check_names(modes)
        check_names(registers)
        check_names(signs)
        check_different(modes)
        check_different(registers)
        check_different(signs)
        check_count(modes, 1, MOST_MODES)
        check_count(registers, 0, MOST_REGISTERS)
        check_count(signs, 1, MOST_SIGNS)
        if len(modes) * (len(registers) + 1) > Program.MOST_WIDTH:
            raise TooWide(Program.MOST_WIDTH)
        check_rules(rules, modes, registers, signs)
        self._modes = tuple(modes)
        self._registers = tuple(registers)
        self._signs = tuple(signs)
        self._rules = tuple(rules)
        self._rule_for = {(rule[0], rule[1]): rule for rule in rules}

    @classmethod
    def idle(cls, *signs):
        """The program with the mode `on` in which no event changes anything."""
        return cls(["on"], [], signs)

    @property
    def width(self):
        """How many integers a row of the program has."""
        return len(self._modes) * (len(self._registers) + 1)

    def modes(self):
        """The list of the modes."""
        return list(self._modes)

    def registers(self):
        """The list of the registers."""
        return list(self._registers)

    def signs(self):
        """The list of the signs."""
        return list(self._signs)

    def rules(self):
        """The list of the rules."""
        return list(self._rules)

    def rule(self, mode, sign):
        """The rule for a mode and a sign, or None."""
        if mode not in self._modes:
            raise UnknownName(mode)
        if sign not in self._signs:
            raise UnknownName(sign)
        return self._rule_for.get((mode, sign))

    def first_state(self):
        """The state with the first mode and zeros."""
        return self._modes[0], (0,) * len(self._registers)

    def is_state(self, value):
        """Whether any value is a state of the program."""
        if not isinstance(value, tuple) or len(value) != 2:
            return False
        mode, values = value
        if mode not in self._modes or not isinstance(values, tuple):
            return False
        return len(values) == len(self._registers) and all([is_whole(number) for number in values])

    def is_event(self, value):
        """Whether any value is an event of the program."""
        if not isinstance(value, tuple) or len(value) != 2:
            return False
        sign, amount = value
        return sign in self._signs and is_integer(amount, -MOST_AMOUNT, MOST_AMOUNT)

    def after(self, state, event):
        """The state behind an event."""
        return self.run(state, [event])

    def run(self, state, events):
        """The state behind a list of events."""
        check_state(self, state)
        check_events(self, events)
        for event in events:
            state = self._moved(state, event)
        return state

    def trail(self, state, events):
        """Yields the state, and then the state behind each event."""
        check_state(self, state)
        check_events(self, events)
        # The list is the caller's, who may change it between two items.
        ahead = list(events)
        yield state
        for event in ahead:
            state = self._moved(state, event)
            yield state

    def _moved(self, state, event):
        """The state behind an event; both are checked."""
        mode, values = state
        sign, amount = event
        rule = self._rule_for.get((mode, sign))
        if rule is None:
            return state
        known = {AMOUNT: amount, ONE: 1}
        for name, number in zip(self._registers, values):
            known[name] = number
        # The sums go into a second dict, since all of them are over the values ahead of the event.
        fresh = {name: known[name] for name in self._registers}
        for name, terms in rule[3]:
            fresh[name] = sum([factor * known[source] for source, factor in terms])
        return rule[2], tuple([fresh[name] for name in self._registers])

    def __eq__(self, other):
        return (
            isinstance(other, Program)
            and self._modes == other._modes
            and self._registers == other._registers
            and self._signs == other._signs
            and self._rules == other._rules
        )

    def __repr__(self):
        return f"Program({len(self._modes)} modes, {len(self._registers)} registers)"
