"""The errors of the package.

Each class holds its own value: a class between them and MarkError, which
could hold it for all, is excluded by the document.
"""


class MarkError(ValueError):
    """What all errors of the package have in common."""


class Unstoppable(MarkError):
    """The mark is in the core, so no attacker stops its writer."""

    def __init__(self, value):
        self.value = value


class BadMark(MarkError):
    """The value is not a mark that fits."""

    def __init__(self, value):
        self.value = value


class TooMany(MarkError):
    """There are more marks or writes than are explored."""

    def __init__(self, count):
        self.count = count


class BadMirrors(MarkError):
    """The value is not a tuple of one to three rings of the same length."""

    def __init__(self, value):
        self.value = value


class BadPlace(MarkError):
    """The value is not a mirror and a slot of the device."""

    def __init__(self, value):
        self.value = value


class BadRecord(MarkError):
    """The value is not a record."""

    def __init__(self, value):
        self.value = value


class BadHeader(MarkError):
    """The value is not a header that can be used here."""

    def __init__(self, value):
        self.value = value


class BadKept(MarkError):
    """The value does not say which unflushed writes a crash keeps."""

    def __init__(self, value):
        self.value = value


class PowerLost(MarkError):
    """The power is off, or goes off ahead of this step."""


class NoHeader(MarkError):
    """The device has no header."""


class NotServing(MarkError):
    """The rule does not serve so many mirrors."""


class Stale(MarkError):
    """The device has crashed since the log was made."""


class BadPayload(MarkError):
    """The value is not a payload."""

    def __init__(self, value):
        self.value = value


class Full(MarkError):
    """The log has no room for a further record."""


class BadCount(MarkError):
    """The value is not a number of records that can be removed."""

    def __init__(self, value):
        self.value = value


class BadText(MarkError):
    """The line with this index is not written as it should be."""

    def __init__(self, line):
        self.line = line


class BadLine(MarkError):
    """The line is none that a session knows."""

    def __init__(self, line):
        self.line = line


class NoLog(MarkError):
    """The session has no log."""
