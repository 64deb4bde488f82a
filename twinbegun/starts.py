"""Starts: which states lead to an end, told by one of them and by how the others differ from it."""

from twinbegun.compiling import row_of
from twinbegun.errors import UnknownName
from twinbegun.logs import check_range
from twinbegun.papers import whole
from twinbegun.programs import is_whole
from twinbegun.tables import kernel, row_less, solve


class Starts:
    """The starts of a state in one mode, with rational numbers as values; it never changes."""

    def __init__(self, mode, numerators, denominator, basis):
        self.mode = mode
        self.numerators = tuple(numerators)
        self.denominator = denominator
        self._basis = tuple(basis)

    def basis(self):
        """The list of the tuples, rational multiples of which lead from start to start."""
        return list(self._basis)

    def has(self, values):
        """Whether any value is a tuple of integers that are the values of a start."""
        if not isinstance(values, tuple) or len(values) != len(self.numerators):
            return False
        if not all([is_whole(number) for number in values]):
            return False
        # All numbers times the denominator, lest fractions are needed.
        row = row_less([self.denominator * number for number in values], self.numerators)
        return solve(self._basis, row) is not None

    def __len__(self):
        return len(self._basis)

    def __repr__(self):
        return f"Starts({len(self._basis)} free)"


def starts(log, first, last, end, mode):
    """The starts at the first place, in a mode, of the state end at the last place; None if there are none."""
    check_range(log, first, last)
    row = row_of(log.program, end)
    base, *rows = _block(log.program, whole(log, first, last), mode)
    # A start leads to the base and its values times the rows.
    found = solve(rows, row_less(row, base))
    if found is None:
        return None
    numerators, denominator = found
    return Starts(mode, numerators, denominator, kernel(rows))


def _block(program, table, mode):
    """The rows of a table that the row of a state in this mode takes part of."""
    modes = program.modes()
    if mode not in modes:
        raise UnknownName(mode)
    size = len(program.registers()) + 1
    at = modes.index(mode) * size
    return table[at:at + size]
