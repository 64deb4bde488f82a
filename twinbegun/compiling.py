"""States as rows and events as tables, such that a product does what the program does."""

from twinbegun.errors import InvalidEvent, InvalidRow
from twinbegun.programs import check_state, is_whole
from twinbegun.tables import identity, row_less


def row_of(program, state):
    """The row of a state."""
    check_state(program, state)
    mode, values = state
    row = []
    for other in program.modes():
        if other == mode:
            row.extend([1, *values])
        else:
            row.extend([0] * (len(values) + 1))
    return tuple(row)


def is_row(program, value):
    """Whether any value is a row for the program."""
    if not isinstance(value, tuple) or len(value) != program.width:
        return False
    return all([is_whole(number) for number in value])


def state_of(program, row):
    """The state with a row."""
    if not is_row(program, row):
        raise InvalidRow()
    size = len(program.registers()) + 1
    for index, mode in enumerate(program.modes()):
        state = (mode, row[index * size + 1:(index + 1) * size])
        if row_of(program, state) == row:
            return state
    raise InvalidRow()


def table_of(program, event):
    """The table of an event."""
    if not program.is_event(event):
        raise InvalidEvent(0)
    table = []
    for mode in program.modes():
        table.extend(_block_of(program, mode, event))
    return tuple(table)


def _block_of(program, mode, event):
    """The rows of the table of an event for one mode: where zeros lead, and what 1 in each register adds to it."""
    many = len(program.registers())
    base = row_of(program, program.after((mode, (0,) * many), event))
    rows = [base]
    for values in identity(many):
        row = row_of(program, program.after((mode, values), event))
        rows.append(row_less(row, base))
    return rows
