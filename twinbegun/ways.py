"""Ways: by which kept tables a row is led from a place to a place."""

from twinbegun.logs import check_range

STEP = "step"
TWIN = "twin"
OPENS = {"step": 1, "twin": 3}


def way(log, first, last):
    """The list of the parts that lead from a place to a place."""
    check_range(log, first, last)
    left, right, level = first, last, 1
    early = []
    late = []
    while left < right:
        cut = log.next_cut(left, level)
        if cut is None or cut > right:
            return [*early, _last_part(log, left, right, level), *late]
        if log.height(right) < level:
            late = [(STEP, right, level), *late]
            right = log.last_cut(right, level)
        if log.height(left) < level:
            early.append(_part_to(log, left, cut, level))
            left = cut
        level += 1
    return early + late


def _last_part(log, left, right, level):
    """The part from left to right, where no cut of the level stands behind left and up to right."""
    if log.height(left) >= level:
        return STEP, right, level
    return _part_to(log, left, right, level)


def _part_to(log, left, goal, level):
    """The part from left, which is no cut of the level, to the goal, which none stands ahead of."""
    near = log.next_cut(left, level - 1)
    if near == goal:
        return STEP, goal, level - 1
    return TWIN, near, goal, level


def opened(parts):
    """How many kept tables the parts of a way, or of a paper, open."""
    return sum([OPENS[part[0]] for part in parts])


def most_opened(program):
    """A number of kept tables that no way of a log of the program goes beyond."""
    return 4 * program.width - 1
