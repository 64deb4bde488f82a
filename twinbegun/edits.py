"""Edits: what other events would have made of the end of a stretch."""

from twinbegun.compiling import row_of, table_of
from twinbegun.errors import InvalidEdit, InvalidPlace, UnknownName
from twinbegun.logs import check_range
from twinbegun.papers import ask, follow
from twinbegun.programs import check_state, is_integer, is_list
from twinbegun.tables import row_less, row_times

STRIKE = "strike"
CHANGE = "change"
PUT = "put"
RUN = "run"
EVENT = "event"


def plan(log, first, last, edits):
    """The list of the pieces that lead through the edited stretch."""
    check_range(log, first, last)
    _check_edits(log, first, last, edits)
    pieces = []
    here = first
    for edit in sorted(edits, key=_turn_of):
        if here < edit[1]:
            pieces.append((RUN, here, edit[1]))
            here = edit[1]
        if edit[0] != STRIKE:
            pieces.append((EVENT, edit[2]))
        if edit[0] != PUT:
            here += 1
    if here < last:
        pieces.append((RUN, here, last))
    return pieces


def edited(log, first, last, edits):
    """The list of the events of the edited stretch."""
    pieces = plan(log, first, last, edits)
    events = log.events()
    found = []
    for word, *rest in pieces:
        if word == RUN:
            found.extend(events[rest[0]:rest[1]])
        else:
            found.extend(rest)
    return found


def outcome(log, first, last, state, edits):
    """The state behind the edited stretch."""
    check_range(log, first, last)
    check_state(log.program, state)
    for word, *rest in plan(log, first, last, edits):
        if word == RUN:
            state = ask(log, rest[0], rest[1], state)
        else:
            state = log.program.after(state, rest[0])
    return state


def slope(log, first, last, state, place):
    """The base row and the slope row, by which the row at the end depends on the amount of one event."""
    check_range(log, first, last)
    row = row_of(log.program, state)
    if not is_integer(place, first, last - 1):
        raise InvalidPlace(place)
    row = follow(log, first, place, row).end
    sign, _ = log[place]
    # Each sum of a rule has the amount at most once, so the amounts 0 and 1 tell of all others.
    base, next_one = [row_times(row, table_of(log.program, (sign, amount))) for amount in (0, 1)]
    rise = row_less(next_one, base)
    return follow(log, place + 1, last, base).end, follow(log, place + 1, last, rise).end


def amount_for(log, first, last, state, place, target, value):
    """For which amount of one event the register target has this value at the end."""
    base, rise = slope(log, first, last, state, place)
    registers = log.program.registers()
    if target not in registers:
        raise UnknownName(target)
    # All blocks but one have zeros only, so the sum over the blocks is the value in the mode at the end.
    at = registers.index(target) + 1
    size = len(registers) + 1
    missing = value - sum(base[at::size])
    step = sum(rise[at::size])
    if step == 0:
        return ("every",) if missing == 0 else None
    return ("one", missing // step) if missing % step == 0 else None


def _turn_of(edit):
    """By what edits are sorted, which leaves those that put events at one place in their order."""
    # What is put at a place stands ahead of the event of this place.
    return edit[1], edit[0] != PUT


def _is_edit(log, first, last, value):
    """Whether any value is an edit of the stretch."""
    if not isinstance(value, tuple):
        return False
    if len(value) == 2:
        return value[0] == STRIKE and is_integer(value[1], first, last - 1)
    if len(value) != 3:
        return False
    word, place, event = value
    if not log.program.is_event(event):
        return False
    if word == CHANGE:
        return is_integer(place, first, last - 1)
    return word == PUT and is_integer(place, first, last)


def _check_edits(log, first, last, edits):
    """Refuses a value that is no list of edits of the stretch, with at most one strike or change for each event."""
    if not is_list(edits):
        raise InvalidEdit(0)
    taken = []
    for index, edit in enumerate(edits):
        if not _is_edit(log, first, last, edit):
            raise InvalidEdit(index)
        if edit[0] != PUT:
            if edit[1] in taken:
                raise InvalidEdit(index)
            taken.append(edit[1])
