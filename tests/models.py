"""What the document says of stores, workspaces, texts and desks, told once more as plainly as it stands there."""

import re

from tests.plain import Stretches, is_int

MOST_AMOUNT = 10 ** 12
NUMBER = "(?:0|-?[1-9][0-9]{0,59})"
NAME = r"[^ *;=\n]+"
TERM = rf"{NUMBER}\*{NAME}"
TERMS = rf"(?:0|{TERM}(?: \+ {TERM})*)"
CHANGE = f"{NAME} = {TERMS}"
RULE = f"rule {NAME} {NAME} {NAME}(?: {CHANGE}(?:; {CHANGE})*)?"
EVENT = f"{NAME} {NUMBER}"


class PlainStore:
    """A store: its disk is a dict of pages."""

    def __init__(self, size):
        self.size = size
        self.restarts = 0
        self.events = []
        self.pending = []
        self.disk = {}

    def put(self, events):
        for event in events:
            self.events.append(event)
            page = (len(self.events) - 1) // self.size
            self.pending.append((page, tuple(self.events[page * self.size:(page + 1) * self.size])))

    def reach(self, writes):
        for page, events in writes:
            self.disk[page] = events
        self.pending = []

    def sync(self):
        self.reach(self.pending)

    def crash(self, kept):
        self.reach([write for index, write in enumerate(self.pending) if index in kept])
        self.restarts += 1
        first = 0
        while len(self.disk.get(first, ())) == self.size:
            first += 1
        self.events = [event for page in range(first + 1) for event in self.disk.get(page, ())]
        self.disk = {page: events for page, events in self.disk.items() if page <= first}

    def pages(self):
        return [self.disk.get(page, ()) for page in range(max(self.disk, default=-1) + 1)]


class Refused(Exception):
    """A command is refused with the error of this name, with these attributes."""

    def __init__(self, name, *told):
        super().__init__(name, told)
        self.name = name
        self.told = list(told)


def is_name(value):
    """Whether any value is a name."""
    return type(value) is str and bool(re.fullmatch("[a-z]{1,6}", value)) and value not in ("amount", "one")


class PlainWorkspace:
    """A workspace: its logs are lists of events by name."""

    def __init__(self, program, limit=8):
        self.program = program
        self.limit = limit
        self.logs = {}
        self.done = []
        self.undone = []

    def apply(self, *commands):
        sizes = {"new": 2, "put": 3, "cut": 3, "branch": 3, "drop": 2}
        for index, command in enumerate(commands):
            known = [word for word in sizes if type(command) is tuple and command[:1] == (word,)]
            if not known or len(command) != sizes[known[0]]:
                raise Refused("InvalidCommand", index)
        logs = {name: list(events) for name, events in self.logs.items()}
        for command in commands:
            self.do(logs, *command)
        self.done.append(self.logs)
        self.logs, self.undone = logs, []

    def do(self, logs, word, name, *rest):
        if word == "new":
            self.check_fresh(logs, name)
            logs[name] = []
            return
        if not is_name(name) or name not in logs:
            raise Refused("UnknownName", name)
        if word == "put":
            event = rest[0]
            right = type(event) is tuple and len(event) == 2 and event[0] in self.program.signs()
            if not right or not is_int(event[1], -MOST_AMOUNT, MOST_AMOUNT):
                raise Refused("InvalidEvent", 0)
            if len(logs[name]) == 200:
                raise Refused("Full", 200)
            logs[name].append(event)
        elif word == "cut":
            if not is_int(rest[0], 0, len(logs[name])):
                raise Refused("InvalidPlace", rest[0])
            del logs[name][rest[0]:]
        elif word == "branch":
            self.check_fresh(logs, rest[0])
            logs[rest[0]] = list(logs[name])
        else:
            del logs[name]

    def check_fresh(self, logs, name):
        if not is_name(name):
            raise Refused("InvalidName", name)
        if name in logs:
            raise Refused("DuplicateName", name)
        if len(logs) >= self.limit:
            raise Refused("Full", self.limit)

    def undo(self):
        if not self.done:
            raise Refused("NothingLeft")
        self.undone.append(self.logs)
        self.logs = self.done.pop()

    def redo(self):
        if not self.undone:
            raise Refused("NothingLeft")
        self.done.append(self.logs)
        self.logs = self.undone.pop()

    def set_limit(self, limit):
        if not is_int(limit, max(1, len(self.logs)), 12):
            raise Refused("InvalidLimit", limit)
        self.limit = limit

    def answer(self, line):
        """The answer of a desk to a line."""
        word, *rest = line.split(" ")
        forms = {"new": "w", "put": "wwn", "cut": "wn", "branch": "ww", "drop": "w", "undo": "", "redo": "", "names": "",
                 "ask": "wnnw" + "n" * len(self.program.registers()), "rank": "wnn", "height": "wn"}
        if word not in forms or len(rest) != len(forms[word]) or "" in rest:
            return "invalid"
        if not all(re.fullmatch(NUMBER, text) for kind, text in zip(forms[word], rest) if kind == "n"):
            return "invalid"
        values = [int(text) if kind == "n" else text for kind, text in zip(forms[word], rest)]
        try:
            return self.reply(word, values)
        except Refused as error:
            return "error " + error.name

    def reply(self, word, values):
        if word == "names":
            return " ".join(sorted(self.logs)) or "none"
        if word in ("undo", "redo"):
            self.undo() if word == "undo" else self.redo()
            return "ok"
        if word in ("ask", "rank", "height"):
            return self.question(word, *values)
        if word == "put":
            values = [values[0], tuple(values[1:])]
        self.apply((word, *values))
        return "ok"

    def question(self, word, name, *values):
        if not is_name(name) or name not in self.logs:
            raise Refused("UnknownName", name)
        events = self.logs[name]
        size = len(events)
        if word == "height":
            if not 0 <= values[0] <= size:
                raise Refused("InvalidPlace", values[0])
            return str(Stretches(self.program, events).height(values[0]))
        first, last, *state = values
        if not 0 <= first <= last <= size:
            raise Refused("InvalidRange", first, last)
        if word == "rank":
            return str(Stretches(self.program, events).rank(first, last))
        if state[0] not in self.program.modes():
            raise Refused("InvalidState")
        end, numbers = self.program.run((state[0], tuple(state[1:])), events[first:last])
        return " ".join([end, *map(str, numbers)])


def split_lines(text):
    """The lines of a text, each with its newline, if it has one."""
    return re.findall(r"[^\n]*\n|[^\n]+", text)


def wrong_line(text, forms, more):
    """The index of the first line that is not of its form: the forms in order, and then more of one form; or None."""
    if type(text) is not str:
        return 0
    lines = split_lines(text)
    for at, line in enumerate(lines):
        form = forms[at] if at < len(forms) else more
        if not re.fullmatch(form + r"\n", line):
            return at
    return len(lines) if len(lines) < len(forms) else None


def wrong_in_program(text):
    """The index of the first line that is not of its form in the text of a program, or None."""
    return wrong_line(text, [f"{word}(?: {NAME})*" for word in ("modes", "registers", "signs")], RULE)


def wrong_in_events(text):
    """The index of the first line that is not of its form in the text of a list of events, or None."""
    return wrong_line(text, [], EVENT)


def parts_of(text):
    """The names and the rules in the text of a program, all lines of which are of their form."""
    lines = [line[:-1] for line in split_lines(text)]
    names = [line.split(" ")[1:] for line in lines[:3]]
    rules = []
    for line in lines[3:]:
        words = line.split(" ", 4)
        changes = []
        for told in words[4].split("; ") if len(words) == 5 else []:
            target, terms = told.split(" = ")
            pairs = [] if terms == "0" else [term.split("*") for term in terms.split(" + ")]
            changes.append((target, tuple((source, int(factor)) for factor, source in pairs)))
        rules.append((*words[1:4], tuple(changes)))
    return (*names, rules)


def told_program(program):
    """The text of a program."""
    text = f"modes {' '.join(program.modes())}\n"
    text += " ".join(["registers"] + program.registers()) + "\n"
    text += f"signs {' '.join(program.signs())}\n"
    for mode, sign, behind, changes in program.rules():
        text += f"rule {mode} {sign} {behind}"
        for at, (target, terms) in enumerate(changes):
            text += "; " if at else " "
            text += f"{target} = " + (" + ".join(f"{factor}*{source}" for source, factor in terms) or "0")
        text += "\n"
    return text
