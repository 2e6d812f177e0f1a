"""Sessions: a device and its log, spoken to by lines of words."""

from nextmarks.errors import BadLine, NoLog, PowerLost
from nextmarks.games import serves
from nextmarks.logs import format_log, recover
from nextmarks.reading import number_in, payload_in, read_device, read_rule
from nextmarks.readers import payloads
from nextmarks.showing import show_device, show_marks, show_payload

COUNT_LIMIT = 1000


def no_words(words, mirrors):
    """Return no arguments, or None if there are words."""
    return None if words else ()


def payload_word(words, mirrors):
    """Return the payload as the one argument, or None if the words are not of this form."""
    payload = payload_in(words[0]) if len(words) == 1 else None
    return None if payload is None else (payload,)


def number_word(words, mirrors):
    """Return the number as the one argument, or None if the words are not of this form."""
    number = number_in(words[0], COUNT_LIMIT) if len(words) == 1 else None
    return None if number is None else (number,)


def limit_word(words, mirrors):
    """Return a number or None as the one argument, or None if the words are not of this form."""
    return (None,) if words == ["-"] else number_word(words, mirrors)


def bools_in(word):
    """Return the bools that the word writes, or None if it writes none."""
    if word == "-":
        return ()
    if word == "" or not all([sign in "01" for sign in word]):
        return None
    return tuple([sign == "1" for sign in word])


def kept_words(words, mirrors):
    """Return what a crash keeps as the one argument, or None if the words are not of this form."""
    kept = tuple([bools_in(word) for word in words])
    return None if len(kept) != mirrors or None in kept else (kept,)


def say_format(session):
    """Begin an empty log."""
    session.log = format_log(session.device, session.rule)
    return "ok"


def say_recover(session):
    """Recover the log that the device holds."""
    session.log = recover(session.device, session.rule)
    return "ok"


def say_append(session, payload):
    """Append to the log."""
    session.log.append(payload)
    return "ok"


def say_flush(session):
    """Flush the log."""
    session.log.flush()
    return "ok"


def say_cut(session, count):
    """Remove the last records of the log."""
    session.log.cut(count)
    return "ok"


def say_trim(session, count):
    """Remove the first records of the log."""
    session.log.trim(count)
    return "ok"


def say_crash(session, kept):
    """Let the device crash."""
    session.device.crash(kept)
    return "ok"


def say_allow(session, steps):
    """Limit the steps of the device."""
    session.device.allow(steps)
    return "ok"


def show_row(row):
    """Return the payloads as words."""
    return " ".join([show_payload(payload) for payload in row]) if row else "none"


def say_log(session):
    """Tell the payloads of the log."""
    return show_row(session.log.payloads())


def say_rows(session):
    """Tell what the reader of each mirror accepts."""
    device = session.device
    return " / ".join([show_row(payloads(device, session.rule, mirror)) for mirror in range(device.mirrors())])


def say_marks(session):
    """Tell the marks of the log."""
    marks = [mark for mark, payload in session.log.records()]
    return show_marks(marks) if marks else "none"


def say_show(session):
    """Tell all that the device holds."""
    return show_device(session.device).replace("\n", " / ")


def say_rule(session):
    """Tell whether the rule serves the mirrors of the device."""
    return "serves" if serves(session.rule, session.device.mirrors()) else "fails"


# What may stand behind the first word of a line.
FORMS = {
    "format": no_words, "recover": no_words, "append": payload_word, "flush": no_words, "cut": number_word,
    "trim": number_word, "crash": kept_words, "allow": limit_word, "log": no_words, "rows": no_words,
    "marks": no_words, "show": no_words, "rule": no_words,
}

ACTIONS = {
    "format": say_format, "recover": say_recover, "append": say_append, "flush": say_flush, "cut": say_cut,
    "trim": say_trim, "crash": say_crash, "allow": say_allow, "log": say_log, "rows": say_rows,
    "marks": say_marks, "show": say_show, "rule": say_rule,
}

NEED_LOG = ("append", "flush", "cut", "trim", "log", "marks")


def arguments_in(words, mirrors):
    """Return the arguments that stand behind the first word, or None if the words are no line by their form."""
    if words[0] not in FORMS:
        return None
    form = FORMS[words[0]]
    return form(words[1:], mirrors)


class Session:
    """A rule, a device, and a log if one was made."""

    def __init__(self, rule_source, device_source):
        self.rule = read_rule(rule_source)
        self.device = read_device(device_source)
        self.log = None

    def say(self, line):
        """Do what the line says, any value, and return the answer."""
        if not isinstance(line, str):
            raise BadLine(line)
        words = line.split(" ")
        values = arguments_in(words, self.device.mirrors())
        if values is None:
            raise BadLine(line)
        if words[0] in NEED_LOG and self.log is None:
            raise NoLog()
        action = ACTIONS[words[0]]
        try:
            return action(self, *values)
        except PowerLost:
            # Behind a loss of power a log must not be used.
            self.log = None
            raise
