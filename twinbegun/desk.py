"""Desks: lines of words about a workspace, and their answers."""

from twinbegun.errors import Missing, NothingLeft, TwinError
from twinbegun.forgetting import rank_of
from twinbegun.papers import ask
from twinbegun.texts import number_in

NUMBER = "number"
# What stands behind the first word of a line; behind `ask` there follows a number for each register.
FORMS = {
    "new": ("name",),
    "put": ("name", "name", "number"),
    "cut": ("name", "number"),
    "branch": ("name", "name"),
    "drop": ("name",),
    "undo": (),
    "redo": (),
    "names": (),
    "ask": ("name", "number", "number", "name"),
    "rank": ("name", "number", "number"),
    "height": ("name", "number"),
}
QUESTIONS = ("names", "ask", "rank", "height")


class Desk:
    """Answers lines about a workspace, and keeps them with their answers."""

    def __init__(self, workspace):
        self._workspace = workspace
        self._lines = []

    def say(self, line):
        """The answer to a line."""
        answer = self._answer(line)
        self._lines.append((line, answer))
        return answer

    def __call__(self, line):
        return self.say(line)

    def workspace(self):
        """The workspace itself."""
        return self._workspace

    def lines(self):
        """The list of the pairs (line, answer)."""
        return list(self._lines)

    def _answer(self, line):
        """The answer to a line, whatever it is."""
        word, *rest = line.split(" ")
        values = self._values_in(word, rest)
        if values is None:
            return "invalid"
        try:
            return self._tell(word, values) if word in QUESTIONS else self._act(word, values)
        except (TwinError, Missing, NothingLeft) as error:
            return f"error {error.code}"

    def _values_in(self, word, rest):
        """The words behind the first one, with integers for numbers; None if they are not of the form."""
        if word not in FORMS:
            return None
        form = list(FORMS[word])
        if word == "ask":
            form.extend([NUMBER for _ in self._workspace.program.registers()])
        if len(rest) != len(form):
            return None
        values = [_value_in(kind, text) for kind, text in zip(form, rest)]
        return None if None in values else values

    def _act(self, word, values):
        """Does what a line asks for, and answers that it is done."""
        if word == "undo":
            self._workspace.undo()
        elif word == "redo":
            self._workspace.redo()
        elif word == "put":
            name, sign, amount = values
            self._workspace.apply((word, name, (sign, amount)))
        else:
            self._workspace.apply((word, *values))
        return "ok"

    def _tell(self, word, values):
        """The answer to a question."""
        if word == "names":
            return " ".join(self._workspace.names()) or "none"
        name, *rest = values
        log = self._workspace.log_of(name)
        if word == "rank":
            return str(rank_of(log, rest[0], rest[1]))
        if word == "height":
            return str(log.height(rest[0]))
        first, last, mode, *numbers = rest
        end, found = ask(log, first, last, (mode, tuple(numbers)))
        return " ".join([end, *[str(number) for number in found]])

    def __len__(self):
        return len(self._lines)


def _value_in(kind, text):
    """The value of a word, or None if it is empty or no number where one is wanted."""
    if kind == NUMBER:
        return number_in(text)
    return text if text != "" else None
