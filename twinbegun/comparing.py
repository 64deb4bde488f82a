"""Comparing: whether two probes have the same value for all lists of events, and papers that tell why."""

from twinbegun.compiling import row_of
from twinbegun.errors import SignsDiffer
from twinbegun.logs import check_range
from twinbegun.papers import copied, listed, whole
from twinbegun.programs import is_list
from twinbegun.tables import rank

# A sum of a rule has the amount at most once, so what is so for these amounts is so for all of them.
AMOUNTS = (0, 1)


class Comparison:
    """Two probes of which nothing is told; it never changes."""

    def __init__(self, one, other):
        self._one = one
        self._other = other

    @property
    def one(self):
        """The first probe."""
        return self._one

    @property
    def other(self):
        """The second probe."""
        return self._other

    def told(self):
        """What is told of the probes, a word."""
        return "open"

    def holds(self):
        """Whether the probes are as told."""
        return False

    def __bool__(self):
        return False

    def __repr__(self):
        return f"Comparison({self.told()})"


class Alike(Comparison):
    """Says by a list of lists of events that two probes are alike."""

    def __init__(self, one, other, logs):
        super().__init__(one, other)
        self._logs = copied(logs)

    def logs(self):
        """The list of the lists; a value that is no list is returned as it is, in the place of a list, too."""
        return [listed(log) for log in self._logs] if is_list(self._logs) else self._logs

    def told(self):
        """What is told of the probes, a word."""
        return "alike"

    def holds(self):
        """Whether the lists lead on to sums of themselves, the empty list is one, and no list parts the probes."""
        if not have_same_signs(self.one.program, self.other.program) or not is_list(self._logs):
            return False
        if not all([are_events(self.one.program, log) for log in self._logs]):
            return False
        ends = [ends_of(self.one, self.other, log) for log in self._logs]
        if any([self.one.value_at(mine) != self.other.value_at(theirs) for mine, theirs in ends]):
            return False
        rows = [row_of_pair(self.one, self.other, pair) for pair in ends]
        wanted = [row_of_pair(self.one, self.other, (self.one.start, self.other.start))]
        for mine, theirs in ends:
            for event in steps_of(self.one.program):
                pair = (self.one.program.after(mine, event), self.other.program.after(theirs, event))
                wanted.append(row_of_pair(self.one, self.other, pair))
        # Rows that are sums of the others do not add to the rank.
        return rank(rows) == rank([*rows, *wanted])

    def __bool__(self):
        return True

    def __repr__(self):
        return f"Alike({self.told()})"


class Apart(Comparison):
    """Says by a list of events that two probes are not alike."""

    def __init__(self, one, other, events):
        super().__init__(one, other)
        self._events = copied(events)

    def events(self):
        """The list of the events, or the very value that was passed if it was no list."""
        return listed(self._events)

    def told(self):
        """What is told of the probes, a word."""
        return "apart"

    def holds(self):
        """Whether the two values for the events are different."""
        if not have_same_signs(self.one.program, self.other.program):
            return False
        if not are_events(self.one.program, self._events):
            return False
        return self.one.value(self._events) != self.other.value(self._events)

    def __bool__(self):
        return False

    def __repr__(self):
        return f"Apart({self.told()})"


def have_same_signs(program, other):
    """Whether two programs have the same signs, in whatever order."""
    return sorted(program.signs()) == sorted(other.signs())


def are_events(program, value):
    """Whether any value is a list of events of the program."""
    return is_list(value) and all([program.is_event(event) for event in value])


def steps_of(program):
    """The events by which lists of events are made longer."""
    return [(sign, amount) for sign in program.signs() for amount in AMOUNTS]


def ends_of(one, other, events):
    """The states of two probes behind a list of events."""
    return one.program.run(one.start, events), other.program.run(other.start, events)


def row_of_pair(one, other, states):
    """The pair row of two probes for events behind which they are at these states."""
    return row_of(one.program, states[0]) + row_of(other.program, states[1])


def compare(one, other):
    """An Alike or an Apart that holds; an Apart has as few events as possible."""
    if not have_same_signs(one.program, other.program):
        raise SignsDiffer()
    logs = []
    rows = []
    # A list of lists of events, those with fewer events first; whatever does not add to the rank leads to
    # sums of what its shorter fellows lead to, so it is not followed.
    waiting = [[]]
    at = 0
    while at < len(waiting):
        events = waiting[at]
        row = row_of_pair(one, other, ends_of(one, other, events))
        if rank([*rows, row]) > len(rows):
            if one.value(events) != other.value(events):
                return Apart(one, other, events)
            logs.append(events)
            rows.append(row)
            waiting.extend([[*events, event] for event in steps_of(one.program)])
        at += 1
    return Alike(one, other, logs)


def are_alike(one, other):
    """Whether two probes are alike."""
    return bool(compare(one, other))


def same_effect(log, first, last, other, from_place, to_place):
    """Whether two stretches of logs with equal programs lead each state to the same state."""
    check_range(log, first, last)
    check_range(other, from_place, to_place)
    if log.program != other.program:
        raise SignsDiffer()
    return whole(log, first, last) == whole(other, from_place, to_place)
