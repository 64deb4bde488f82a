"""What a stretch of a log forgets: falls of its rank, states that meet, events that are not needed."""

from twinbegun.compiling import row_of
from twinbegun.logs import check_place
from twinbegun.papers import follow, whole
from twinbegun.tables import rank, row_less


def rank_of(log, first, last):
    """The rank of the table of the stretch."""
    return rank(whole(log, first, last))


def falls(log, first, *, last=None):
    """The pairs (place, rank) of the places at which the rank of the stretch from first on becomes less."""
    end = len(log) if last is None else last
    least = rank_of(log, first, end)
    place, left = first, log.program.width
    found = []
    while left > least:
        place = _first_below(log, first, left, place + 1, end)
        left = rank_of(log, first, place)
        found.append((place, left))
    return found


def meeting(log, first, one, other):
    """The first place from first on at which the two states meet, or None."""
    check_place(log, first, 0)
    # Two rows lead to the same row where their difference leads to zeros.
    row = row_less(row_of(log.program, one), row_of(log.program, other))
    place = _first_place(first, len(log), lambda at: not any(follow(log, first, at, row).end))
    return place if place <= len(log) else None


def needed_from(log, place):
    """The greatest place such that the events ahead of it are not needed at the place, or None."""
    check_place(log, place, 0)
    # The events ahead of a place are needed from the next place on, once they are needed at all.
    needed = _first_place(0, place, lambda first: rank_of(log, first, place) > 1)
    return needed - 1 if needed > 0 else None


def _first_below(log, first, most, least, end):
    """The first place from the least one up to the end to which the rank from first is below the most."""
    return _first_place(least, end, lambda place: rank_of(log, first, place) < most)


def _first_place(least, most, is_so):
    """The first place from least to most at which something is so, and so from there on; one more than most if none."""
    end = most + 1
    while least < end:
        middle = (least + end) // 2
        if is_so(middle):
            end = middle
        else:
            least = middle + 1
    return least
