"""The errors of the package; each one tells its class by its code."""


class TwinError(ValueError):
    """A value is refused."""


class Missing(LookupError):
    """Something that is asked for is not there."""


class InvalidName(TwinError):
    """A value stands where a name is wanted and is none."""

    def __init__(self, given):
        self.code = "InvalidName"
        self.given = given


class DuplicateName(TwinError):
    """A name is there already."""

    def __init__(self, name):
        self.code = "DuplicateName"
        self.name = name


class InvalidCount(TwinError):
    """A number of things is too small, too great or no number."""

    def __init__(self, given):
        self.code = "InvalidCount"
        self.given = given


class TooWide(TwinError):
    """The width of a program is above the greatest one."""

    def __init__(self, most):
        self.code = "TooWide"
        self.most = most


class InvalidRule(TwinError):
    """The value with this index is no rule of the program."""

    def __init__(self, index):
        self.code = "InvalidRule"
        self.index = index


class DuplicateRule(TwinError):
    """An earlier rule has the mode and the sign of the rule with this index."""

    def __init__(self, index):
        self.code = "DuplicateRule"
        self.index = index


class InvalidState(TwinError):
    """A value is no state of the program."""

    def __init__(self):
        self.code = "InvalidState"


class InvalidEvent(TwinError):
    """The value with this index is no event of the program."""

    def __init__(self, index):
        self.code = "InvalidEvent"
        self.index = index


class InvalidRow(TwinError):
    """A value is not the row that is wanted."""

    def __init__(self):
        self.code = "InvalidRow"


class InvalidPlace(TwinError):
    """A value is not such a place as is wanted."""

    def __init__(self, given):
        self.code = "InvalidPlace"
        self.given = given


class InvalidLevel(TwinError):
    """A value is no level of the program."""

    def __init__(self, given):
        self.code = "InvalidLevel"
        self.given = given


class InvalidRange(TwinError):
    """Two values are not the first and the last place of a stretch."""

    def __init__(self, first, last):
        self.code = "InvalidRange"
        self.first = first
        self.last = last


class InvalidEdit(TwinError):
    """The value with this index is no edit of the stretch."""

    def __init__(self, index):
        self.code = "InvalidEdit"
        self.index = index


class InvalidLook(TwinError):
    """The value with this index does not belong into a look."""

    def __init__(self, index):
        self.code = "InvalidLook"
        self.index = index


class SignsDiffer(TwinError):
    """Two programs have other signs, or are not equal."""

    def __init__(self):
        self.code = "SignsDiffer"


class InvalidPending(TwinError):
    """A value is no index of a pending write."""

    def __init__(self, given):
        self.code = "InvalidPending"
        self.given = given


class InvalidLimit(TwinError):
    """A value cannot be the limit of a workspace."""

    def __init__(self, given):
        self.code = "InvalidLimit"
        self.given = given


class InvalidCommand(TwinError):
    """The value with this index is no command."""

    def __init__(self, index):
        self.code = "InvalidCommand"
        self.index = index


class InvalidText(TwinError):
    """The line with this index is not of its form."""

    def __init__(self, line):
        self.code = "InvalidText"
        self.line = line


class Full(TwinError):
    """There is no room for more than so many."""

    def __init__(self, most):
        self.code = "Full"
        self.most = most


class UnknownName(Missing):
    """There is nothing of this name."""

    def __init__(self, name):
        self.code = "UnknownName"
        self.name = name


class NothingLeft(IndexError):
    """There is no step to take back, or to make again."""

    def __init__(self):
        self.code = "NothingLeft"
