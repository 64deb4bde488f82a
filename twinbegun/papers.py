"""Papers: how a row leads to a row, told such that the kept tables alone can follow it."""

from twinbegun.compiling import is_row, row_of, state_of
from twinbegun.errors import InvalidRow
from twinbegun.logs import KeptLog, check_range
from twinbegun.programs import is_integer, is_list, is_whole
from twinbegun.tables import identity, row_times, solutions, table_times
from twinbegun.ways import STEP, TWIN, way


def copied(value):
    """The value, with new lists in the place of the lists in it."""
    if isinstance(value, list):
        return [copied(item) for item in value]
    if isinstance(value, tuple):
        return tuple([copied(item) for item in value])
    return value


def listed(value):
    """A new list of the items of a list or a tuple; any other value itself."""
    return list(copied(value)) if is_list(value) else value


class Paper:
    """Says that a row at one place leads to a row at another place; it never changes."""

    def __init__(self, first, last, start, end, parts):
        self.first = first
        self.last = last
        self.start = start
        self.end = end
        self._parts = copied(parts)

    def parts(self):
        """The list of the parts, or the very value that was passed if it was no list."""
        return listed(self._parts)

    def holds(self, log):
        """Whether the kept tables of the log lead from the start to the end as the parts say."""
        if not isinstance(log, KeptLog) or not self._is_formed(log):
            return False
        place, row = self.first, self.start
        for part in self._parts:
            found = _followed(log, part, place, row)
            if found is None:
                return False
            place, row = found
        return place == self.last and row == self.end

    def _is_formed(self, log):
        """Whether all values are of the right kinds for the log."""
        most = len(log)
        if not is_integer(self.first, 0, most) or not is_integer(self.last, self.first, most):
            return False
        if not is_row(log.program, self.start) or not is_row(log.program, self.end):
            return False
        return is_list(self._parts) and all([_is_part(log, part) for part in self._parts])

    def __repr__(self):
        return f"Paper({len(self._parts) if is_list(self._parts) else 0} parts)"


def _is_part(log, value):
    """Whether any value is of the form of a part, for this log."""
    if not isinstance(value, tuple):
        return False
    most = len(log)
    width = log.program.width
    if len(value) == 3:
        word, place, level = value
        return word == STEP and is_integer(place, 1, most) and is_integer(level, 0, width)
    if len(value) == 6:
        word, near, far, level, numerators, denominator = value
        places = is_integer(near, 1, most) and is_integer(far, 1, most) and is_integer(level, 1, width)
        twin_row = is_row(log.program, numerators) and is_whole(denominator) and denominator >= 1
        return word == TWIN and places and twin_row
    return False


def _followed(log, part, place, row):
    """The place and the row behind a part of a paper, or None if the part does not lead on."""
    if part[0] == STEP:
        _, last, level = part
        beginning, table = log.kept(last, level)
        return (last, row_times(row, table)) if beginning == place else None
    _, near, far, level, numerators, denominator = part
    beginning, table = log.kept(near, level - 1)
    twin_beginning, near_table = log.kept(near, level)
    far_beginning, far_table = log.kept(far, level)
    if beginning != place or far_beginning != twin_beginning:
        return None
    if row_times(numerators, near_table) != tuple([denominator * number for number in row_times(row, table)]):
        return None
    numbers = row_times(numerators, far_table)
    if any([number % denominator != 0 for number in numbers]):
        return None
    return far, tuple([number // denominator for number in numbers])


def _led(log, part, rows):
    """The rows behind a part of a way, and for each of them the part as a paper tells it."""
    if part[0] == STEP:
        _, place, level = part
        _, table = log.kept(place, level)
        return list(table_times(rows, table)), [part] * len(rows)
    _, near, far, level = part
    _, table = log.kept(near, level - 1)
    _, near_table = log.kept(near, level)
    _, far_table = log.kept(far, level)
    behind = []
    told = []
    # Nothing is forgotten between the cuts of the level, so each row has a twin.
    for numerators, denominator in solutions(near_table, table_times(rows, table)):
        numbers = row_times(numerators, far_table)
        behind.append(tuple([number // denominator for number in numbers]))
        told.append((*part, numerators, denominator))
    return behind, told


def follow(log, first, last, row):
    """A paper that holds, from this row, with the parts of the way."""
    check_range(log, first, last)
    if not is_row(log.program, row):
        raise InvalidRow()
    rows = [row]
    parts = []
    for part in way(log, first, last):
        rows, told = _led(log, part, rows)
        parts.extend(told)
    return Paper(first, last, row, rows[0], parts)


def ask(log, first, last, state):
    """The state at the last place that the state at the first place leads to."""
    check_range(log, first, last)
    return state_of(log.program, follow(log, first, last, row_of(log.program, state)).end)


def whole(log, first, last):
    """The table of the stretch."""
    rows = list(identity(log.program.width))
    for part in way(log, first, last):
        rows, _ = _led(log, part, rows)
    return tuple(rows)
