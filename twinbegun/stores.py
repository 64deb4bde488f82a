"""Stores: the events of one log on a disk in pages, which come up again after a crash."""

from twinbegun.errors import InvalidCount, InvalidPending
from twinbegun.logs import KeptLog, check_room
from twinbegun.programs import check_events, is_integer

MOST_SIZE = 20


class Store:
    """The events of a log, the writes that are pending, and the pages that the disk has."""

    def __init__(self, program, *, size=4):
        if not is_integer(size, 1, MOST_SIZE):
            raise InvalidCount(size)
        self._program = program
        self._size = size
        self._restarts = 0
        self._events = []
        self._pending = []
        # A page that the disk does not have is empty here.
        self._pages = []

    @property
    def size(self):
        """How many events a page has."""
        return self._size

    @property
    def restarts(self):
        """The number of crashes."""
        return self._restarts

    def put(self, *events):
        """Puts events behind the others, each as one write."""
        check_events(self._program, events)
        check_room(len(self._events) + len(events))
        for event in events:
            page = len(self._events) // self._size
            self._events.append(event)
            self._pending.append((page, tuple(self._events[page * self._size:])))

    def sync(self):
        """Brings all pending writes to the disk."""
        self._write(self._pending)
        self._pending = []

    def pending(self):
        """The list of the writes that are pending, pairs (page, events)."""
        return list(self._pending)

    def pages(self):
        """The list of what the disk has for the pages from 0 up to the last one that it has."""
        return list(self._pages)

    def crash(self, *kept):
        """A crash in which the pending writes with these indexes reach the disk, and no others."""
        for index in kept:
            if not is_integer(index, 0, len(self._pending) - 1):
                raise InvalidPending(index)
        self._write([write for index, write in enumerate(self._pending) if index in kept])
        self._pending = []
        self._come_up()
        self._restarts += 1

    def log(self):
        """An independent log with the events."""
        return KeptLog(self._program, self._events)

    def events(self):
        """The list of the events."""
        return list(self._events)

    def twin(self):
        """An independent store with the same size, events, pages, pending writes and restarts."""
        fresh = Store(self._program, size=self._size)
        fresh._restarts = self._restarts
        fresh._events = list(self._events)
        fresh._pending = list(self._pending)
        fresh._pages = list(self._pages)
        return fresh

    def _write(self, writes):
        """Brings writes to the disk, in their order."""
        for page, events in writes:
            while len(self._pages) <= page:
                self._pages.append(())
            self._pages[page] = events

    def _come_up(self):
        """Reads the events from the disk, and removes what stands behind a page that is not full."""
        last = 0
        while last < len(self._pages) and len(self._pages[last]) == self._size:
            last += 1
        self._pages = [page for page in self._pages[:last + 1] if page != ()]
        self._events = [event for page in self._pages for event in page]

    def __len__(self):
        return len(self._events)

    def __repr__(self):
        return f"Store({len(self._events)} events)"
