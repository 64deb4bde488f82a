"""Rows and tables of integers: their products, their rank, and which rows depend on which."""

from math import gcd


def identity(width):
    """The table that leaves each row of this width as it is."""
    return tuple([tuple([1 if at == index else 0 for at in range(width)]) for index in range(width)])


def row_times(row, table):
    """The product of a row and a table."""
    return tuple([sum([number * factor for number, factor in zip(row, column)]) for column in zip(*table)])


def row_less(one, other):
    """The row less the other one, number by number."""
    return tuple([mine - theirs for mine, theirs in zip(one, other)])


def table_times(one, other):
    """The product of two tables."""
    return tuple([row_times(row, other) for row in one])


def rank(rows):
    """The greatest number of rows none of which is a sum of rational multiples of the others."""
    basis, _ = _parted(rows, _width_of(rows))
    return len(basis)


def solve(rows, row):
    """The row as a sum of rational multiples of the rows, a pair (numerators, denominator), or None."""
    return solutions(rows, [row])[0]


def solutions(rows, wanted):
    """For each of the wanted rows the pair (numerators, denominator) of `solve`, or None."""
    # Each line ends with the factor of the wanted row.
    basis, _ = _parted([(*line, 0) for line in _marked(rows)], _width_of(wanted))
    return [_solution(row, basis, len(rows)) for row in wanted]


def kernel(rows):
    """As many independent tuples of factors as there are, each of which sums up the rows to zeros."""
    width = _width_of(rows)
    _, rests = _parted(_marked(rows), width)
    return [tuple(rest[width:]) for rest in rests]


def _solution(row, basis, many):
    """The row by as many factors as the lines of the basis were made of, or None."""
    width = len(row)
    zeros = [0] * many
    rest = _cleared((*row, *zeros, 1), basis)
    if _leading(rest, width) is not None:
        return None
    *factors, own = rest[width:]
    # The rows times their factors and the row times its own one sum up to zeros, so the row changes sides.
    turn = -1 if own > 0 else 1
    return tuple([turn * factor for factor in factors]), abs(own)


def _width_of(rows):
    """How many integers each of the rows has; 0 if there are no rows."""
    return len(rows[0]) if rows else 0


def _marked(rows):
    """The rows, each followed by its factors: 1 for itself and 0 for the others."""
    return [(*row, *factors) for row, factors in zip(rows, identity(len(rows)))]


def _parted(lines, width):
    """Parts lines by their first width numbers: a basis of them, and what is left of those that depend on it."""
    basis = []
    rests = []
    for line in lines:
        rest = _cleared(line, basis)
        column = _leading(rest, width)
        if column is None:
            rests.append(rest)
        else:
            basis.append((column, rest))
    return basis, rests


def _cleared(line, basis):
    """A multiple of the line, less multiples of the basis, with zeros in the leading columns of the basis."""
    for column, other in basis:
        factor = line[column]
        lead = other[column]
        if factor != 0:
            line = _shortened([lead * mine - factor * theirs for mine, theirs in zip(line, other)])
    return line


def _shortened(line):
    """The line without the greatest factor that all its numbers share, lest the numbers grow at each step."""
    common = 0
    for number in line:
        common = gcd(common, number)
        if common == 1:
            return line
    if common == 0:
        return line
    return [number // common for number in line]


def _leading(line, width):
    """The last of the first width columns that has no zero, or None if there is none."""
    # The last one, since tuples of a kernel end in different columns: they need no clearing then.
    for column in reversed(range(width)):
        if line[column] != 0:
            return column
    return None
