"""Texts: programs and lists of events, written line by line and read again."""

from twinbegun.errors import InvalidText
from twinbegun.programs import Program

MODES = "modes"
REGISTERS = "registers"
SIGNS = "signs"
RULE = "rule"
# What no name of a text has.
BARRED = " *;="
DIGITS = "0123456789"
MOST_DIGITS = 60


def number_in(text):
    """The integer that a text tells as a NUMBER, or None."""
    if text == "0":
        return 0
    digits = text.removeprefix("-")
    if not 1 <= len(digits) <= MOST_DIGITS or digits[0] == "0":
        return None
    return int(text) if all([digit in DIGITS for digit in digits]) else None


def program_text(program):
    """The text of a program."""
    lines = [
        " ".join([MODES, *program.modes()]),
        " ".join([REGISTERS, *program.registers()]),
        " ".join([SIGNS, *program.signs()]),
    ]
    lines.extend([_rule_line(rule) for rule in program.rules()])
    return "".join([line + "\n" for line in lines])


def events_text(events):
    """The text of a list of events."""
    return "".join([f"{sign} {amount}\n" for sign, amount in events])


def read_program(text):
    """The program of a text."""
    lines = _lines_of(text)
    # A line that is missing is refused where it would stand.
    heads = [*lines, "", "", ""][:3]
    found = [_names_in(line, word) for line, word in zip(heads, (MODES, REGISTERS, SIGNS))]
    modes, registers, signs = _checked(found, 0)
    return Program(modes, registers, signs, _checked([_rule_in(line) for line in lines[3:]], 3))


def read_events(text):
    """The list of the events of a text; whether a program has them is not asked."""
    return _checked([_event_in(line) for line in _lines_of(text)], 0)


def _rule_line(rule):
    """The line of a rule."""
    mode, sign, behind, changes = rule
    words = [RULE, mode, sign, behind]
    if changes != ():
        words.append("; ".join([_change_text(target, terms) for target, terms in changes]))
    return " ".join(words)


def _change_text(target, terms):
    """The text of a change."""
    told = " + ".join([f"{factor}*{source}" for source, factor in terms])
    return f"{target} = {told}" if terms != () else f"{target} = 0"


def _lines_of(text):
    """The lines of any value as a text, without their newlines."""
    if not isinstance(text, str):
        return [""]
    *lines, rest = text.split("\n")
    # No line may be empty, so an empty one stands for a line that ends without a newline, or for no text at all.
    return lines if rest == "" else [*lines, ""]


def _checked(found, first):
    """What was found in the lines from the first one on; None was found in lines that are not of their form."""
    for index, value in enumerate(found):
        if value is None:
            raise InvalidText(first + index)
    return found


def _is_word(text):
    """Whether a text has the form of a name."""
    return text != "" and not any([letter in BARRED for letter in text])


def _names_in(line, head):
    """The list of the names in a line that begins with this word, or None."""
    word, *names = line.split(" ")
    return names if word == head and all([_is_word(name) for name in names]) else None


def _event_in(line):
    """The event of a line, or None."""
    sign, _, told = line.partition(" ")
    amount = number_in(told)
    return (sign, amount) if _is_word(sign) and amount is not None else None


def _rule_in(line):
    """The rule of a line, or None."""
    word, *rest = line.split(" ", 4)
    names = rest[:3]
    if word != RULE or len(names) < 3 or not all([_is_word(name) for name in names]):
        return None
    changes = [_change_in(text) for told in rest[3:] for text in told.split("; ")]
    return None if None in changes else (*names, tuple(changes))


def _change_in(text):
    """The change of a text, or None."""
    target, _, told = text.partition(" = ")
    terms = _terms_in(told)
    return (target, terms) if _is_word(target) and terms is not None else None


def _terms_in(text):
    """The terms of a text, or None."""
    if text == "0":
        return ()
    terms = [_term_in(told) for told in text.split(" + ")]
    return None if None in terms else tuple(terms)


def _term_in(text):
    """The term of a text, or None."""
    told, _, source = text.partition("*")
    factor = number_in(told)
    return (source, factor) if _is_word(source) and factor is not None else None
