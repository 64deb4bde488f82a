"""Workspaces: logs by name, which commands change step by step, with undo and redo."""

from twinbegun.errors import DuplicateName, Full, InvalidCommand, InvalidLimit, InvalidName, NothingLeft, UnknownName
from twinbegun.logs import KeptLog
from twinbegun.programs import is_integer, is_name

NEW = "new"
PUT = "put"
CUT = "cut"
BRANCH = "branch"
DROP = "drop"
# How many items a command has, by its first one.
SIZES = {"new": 2, "put": 3, "cut": 3, "branch": 3, "drop": 2}


class Workspace:
    """A program and logs of its events by name."""

    MOST = 12

    def __init__(self, program, *, limit=8):
        # No log that stands in a dict of logs is ever changed, so steps share the logs that they leave as they are.
        self._logs = {}
        self._done = []
        self._undone = []
        self._busy = False
        self._program = program
        self._check_limit(limit)
        self._limit = limit

    @property
    def program(self):
        """The program of all logs."""
        return self._program

    @property
    def limit(self):
        """Up to how many logs commands may add logs."""
        return self._limit

    @limit.setter
    def limit(self, value):
        self._check_limit(value)
        self._limit = value

    @property
    def busy(self):
        """Whether commands are being applied."""
        return self._busy

    def set_limit(self, limit):
        """Does what an assignment of the limit does."""
        self.limit = limit

    def apply(self, *commands):
        """Does all commands as one step, or none of them."""
        for index, command in enumerate(commands):
            if not _is_command(command):
                raise InvalidCommand(index)
        logs = dict(self._logs)
        self._busy = True
        try:
            for command in commands:
                self._do(logs, *command)
        finally:
            self._busy = False
        self._done.append(self._logs)
        self._undone = []
        self._logs = logs

    def undo(self):
        """Takes the last step back."""
        if self._done == []:
            raise NothingLeft()
        self._undone.append(self._logs)
        self._logs = self._done.pop()

    def redo(self):
        """Makes the step again that was taken back last."""
        if self._undone == []:
            raise NothingLeft()
        self._done.append(self._logs)
        self._logs = self._undone.pop()

    def history(self):
        """The pair of the numbers of steps that can be undone and redone."""
        return len(self._done), len(self._undone)

    def names(self):
        """The ascending list of the names of the logs."""
        return sorted(self._logs)

    def log_of(self, name):
        """An independent log with the events of the log with this name."""
        return _log_in(self._logs, name).branch()

    def twin(self):
        """An independent workspace with the same logs, limit and history."""
        fresh = Workspace(self._program)
        fresh._logs = self._logs
        fresh._done = list(self._done)
        fresh._undone = list(self._undone)
        fresh._limit = self._limit
        return fresh

    def _check_limit(self, value):
        """Refuses a value that cannot be the limit, or that there are more logs than."""
        if not is_integer(value, max(1, len(self._logs)), Workspace.MOST):
            raise InvalidLimit(value)

    def _do(self, logs, word, name, *rest):
        """Does one command of the right form on these logs."""
        if word == NEW:
            self._check_fresh(logs, name)
            logs[name] = KeptLog(self._program)
            return
        log = _log_in(logs, name)
        if word == PUT:
            logs[name] = log.with_events(rest)
        elif word == CUT:
            shorter = log.branch()
            shorter.cut(rest[0])
            logs[name] = shorter
        elif word == BRANCH:
            self._check_fresh(logs, rest[0])
            logs[rest[0]] = log
        else:
            del logs[name]

    def _check_fresh(self, logs, name):
        """Refuses a value that no further log can have as its name."""
        if not is_name(name):
            raise InvalidName(name)
        if name in logs:
            raise DuplicateName(name)
        if len(logs) >= self._limit:
            raise Full(self._limit)

    def __contains__(self, name):
        return is_name(name) and name in self._logs

    def __eq__(self, other):
        return isinstance(other, Workspace) and self._program == other._program and self._logs == other._logs

    def __len__(self):
        return len(self._logs)

    def __repr__(self):
        return f"Workspace({len(self._logs)} logs)"


def _is_command(value):
    """Whether any value is of the form of a command."""
    if not isinstance(value, tuple) or len(value) == 0 or not isinstance(value[0], str):
        return False
    return len(value) == SIZES.get(value[0], -1)


def _log_in(logs, name):
    """The log with this name; any value may be asked for."""
    if not is_name(name) or name not in logs:
        raise UnknownName(name)
    return logs[name]
