"""Logs of events, with the tables that are kept at each of their places."""

from twinbegun.compiling import table_of
from twinbegun.errors import Full, InvalidLevel, InvalidPlace, InvalidRange
from twinbegun.programs import check_events, is_integer, is_whole
from twinbegun.tables import rank, table_times

MOST_EVENTS = 200


def check_room(many):
    """Refuses more events than a log may have."""
    if many > MOST_EVENTS:
        raise Full(MOST_EVENTS)


def check_place(log, value, least):
    """Refuses a value that is no place of the log from the least one on."""
    if not is_integer(value, least, len(log)):
        raise InvalidPlace(value)


def check_level(log, value):
    """Refuses a value that is no level of the log's program."""
    if not is_integer(value, 0, log.program.width):
        raise InvalidLevel(value)


def check_range(log, first, last):
    """Refuses two values that are not the first and the last place of a stretch of the log."""
    most = len(log)
    if not is_integer(first, 0, most) or not is_integer(last, 0, most) or first > last:
        raise InvalidRange(first, last)


class KeptLog:
    """The events of a program, with the height of each place and its kept tables at all levels."""

    def __init__(self, program, events=()):
        check_events(program, events)
        check_room(len(events))
        self._program = program
        self._events = []
        # The place 0 is a cut of all levels.
        self._heights = [program.width]
        # The lot of a place are its kept tables, level by level; the place 0 has none.
        self._lots = [[]]
        self._worked = 0
        self._grow(events)

    @property
    def program(self):
        """The program of the events."""
        return self._program

    @property
    def worked(self):
        """For how many places this object worked out kept tables."""
        return self._worked

    def put(self, *events):
        """Puts events behind the others."""
        check_events(self._program, events)
        check_room(len(self._events) + len(events))
        self._grow(events)

    def cut(self, place):
        """Removes all events from this place on."""
        check_place(self, place, 0)
        # What is kept at a place depends on the events ahead of it alone, so the rest stays right.
        self._events = self._events[:place]
        self._heights = self._heights[:place + 1]
        self._lots = self._lots[:place + 1]

    def events(self):
        """The list of the events."""
        return list(self._events)

    def height(self, place):
        """The greatest level of which the place is a cut."""
        check_place(self, place, 0)
        return self._heights[place]

    def cuts(self, level):
        """The ascending list of the cuts of a level."""
        check_level(self, level)
        return [place for place, height in enumerate(self._heights) if height >= level]

    def kept(self, place, level):
        """The kept table of a place at a level, a pair (beginning, table)."""
        check_place(self, place, 1)
        check_level(self, level)
        return self._lots[place][level]

    def next_cut(self, place, level):
        """The first cut of a level behind a place, or None."""
        check_place(self, place, 0)
        for cut in self.cuts(level):
            if cut > place:
                return cut
        return None

    def last_cut(self, place, level):
        """The last cut of a level at or ahead of a place."""
        check_place(self, place, 0)
        # There is always one, since the place 0 is a cut of all levels.
        return [cut for cut in self.cuts(level) if cut <= place][-1]

    def branch(self):
        """An independent log with the same events, for which nothing was worked out anew."""
        fresh = KeptLog(self._program)
        fresh._events = list(self._events)
        fresh._heights = list(self._heights)
        fresh._lots = list(self._lots)
        return fresh

    def with_events(self, events):
        """An independent log with further events behind the others."""
        check_events(self._program, events)
        check_room(len(self._events) + len(events))
        fresh = self.branch()
        fresh._grow(events)
        return fresh

    def _grow(self, events):
        """Puts events that are checked behind the others, and works out what is kept behind each of them."""
        for event in events:
            lot = self._lot_behind(table_of(self._program, event))
            self._events.append(event)
            self._heights.append(_height_behind(lot))
            self._lots.append(lot)
            self._worked += 1

    def _lot_behind(self, table):
        """The kept tables of the place behind one more event with this table, level by level from 0 on."""
        end = len(self._events)
        height = self._heights[-1]
        lot = [(end, table)] * (height + 1)
        # The last place is no cut of the levels above its height, so their tables begin where its own ones do.
        for beginning, ahead in self._lots[-1][height + 1:]:
            if beginning == lot[-1][0]:
                lot.append(lot[-1])
            else:
                lot.append((beginning, table_times(ahead, table)))
        return lot

    def __getitem__(self, at):
        if not is_integer(at, 0, len(self._events) - 1):
            raise InvalidPlace(at)
        return self._events[at]

    def __iter__(self):
        raise TypeError("a log is not iterated over, its list of events is")

    def __len__(self):
        return len(self._events)

    def __eq__(self, other):
        return isinstance(other, KeptLog) and self._program == other._program and self._events == other._events

    def __repr__(self):
        return f"KeptLog({len(self._events)} events)"


def _height_behind(lot):
    """The height of a place with these kept tables at the levels from 0 to the width."""
    width = len(lot) - 1
    height = 0
    # No rank is below 1, so the place is no cut of the level of the width.
    while rank(lot[height + 1][1]) != width - height:
        height += 1
    return height


def first_wrong(program, events, lots):
    """Where lists of kept tables of the places behind these events are first wrong, a pair (place, level), or None."""
    log = KeptLog(program, events)
    if not isinstance(lots, list):
        return 1, 0
    for place in range(1, len(log) + 1):
        if place > len(lots):
            return place, 0
        level = _wrong_level(log, place, lots[place - 1])
        if level is not None:
            return place, level
    return (len(log) + 1, 0) if len(lots) > len(log) else None


def _wrong_level(log, place, lot):
    """The first level at which any value is wrong as the list of the kept tables of a place, or None."""
    if not isinstance(lot, list):
        return 0
    most = log.program.width
    for level in range(most + 1):
        if level >= len(lot) or not _is_same(lot[level], log.kept(place, level)):
            return level
    return most + 1 if len(lot) > most + 1 else None


def _is_same(value, wanted):
    """Whether any value is this tuple, or this integer; for Python True is equal to 1, here it is not."""
    if not isinstance(wanted, tuple):
        return is_whole(value) and value == wanted
    if not isinstance(value, tuple) or len(value) != len(wanted):
        return False
    return all([_is_same(mine, theirs) for mine, theirs in zip(value, wanted)])


def columns(log):
    """A line for each event: its index, its sign, its amount and the height of the place behind it."""
    lines = []
    for index, (sign, amount) in enumerate(log.events()):
        lines.append(f"{index:>4} {sign:<6}{amount:>15} {log.height(index + 1):>2}")
    return lines
