"""Probes: programs that begin at a state and are looked at through a sum of their registers."""

from twinbegun.errors import InvalidLook
from twinbegun.programs import ONE, are_terms, check_state, is_list


class Probe:
    """A program, a start state and a look; it never changes."""

    def __init__(self, program, start, look):
        check_state(program, start)
        _check_look(program, look)
        self._program = program
        self._start = start
        self._look = tuple(look)

    @property
    def program(self):
        """The program."""
        return self._program

    @property
    def start(self):
        """The state ahead of all events."""
        return self._start

    @start.setter
    def start(self, value):
        # Papers assign an attribute of this name, so the language rules ask for a setter here.
        # It refuses, as Python does for the properties that have none.
        raise AttributeError("a probe never changes")

    def look(self):
        """The list of the pairs of the look."""
        return list(self._look)

    def value_at(self, state):
        """The value of the look at a state."""
        check_state(self._program, state)
        mode, values = state
        known = {ONE: 1}
        for name, number in zip(self._program.registers(), values):
            known[name] = number
        # There is at most one pair for the mode; no pair at all makes 0.
        chosen = [terms for other, terms in self._look if other == mode]
        return sum([factor * known[source] for terms in chosen for source, factor in terms])

    def value(self, events):
        """The value of the look behind a list of events."""
        return self.value_at(self._program.run(self._start, events))

    def __call__(self, events):
        return self.value(events)


def _check_look(program, look):
    """Refuses a value that is no list of pairs of different modes and terms."""
    if not is_list(look):
        raise InvalidLook(0)
    modes = program.modes()
    sources = [*program.registers(), ONE]
    seen = []
    for index, pair in enumerate(look):
        if not isinstance(pair, tuple) or len(pair) != 2:
            raise InvalidLook(index)
        if pair[0] not in modes or pair[0] in seen or not are_terms(pair[1], sources):
            raise InvalidLook(index)
        seen.append(pair[0])
