"""Certificates: what shows that a rule serves, or that it fails."""

from nextmarks.games import attack, core, fitting, removals
from nextmarks.kinds import is_ascending, is_below


def certificate(rule, mirrors):
    """Return a certificate for the rule."""
    marks = core(rule, mirrors)
    if marks:
        return ("serves", marks)
    # What fits behind a mark was removed in an earlier round, so the order of the rounds is that of the rows.
    return ("fails", tuple([(mark, gone[mark]) for gone in removals(rule, mirrors) for mark in gone]))


def shows_serving(rule, mirrors, marks):
    """Return whether any value is a set of marks that a writer need not leave."""
    if not is_ascending(marks, len(rule)) or len(marks) == 0:
        return False
    return all([attack(rule, mirrors, mark, marks) is None for mark in marks])


def is_row(rule, mirrors, value):
    """Return whether any value is a mark of the rule with ascending lying marks, not more than mirrors."""
    if not isinstance(value, tuple) or len(value) != 2:
        return False
    if not is_below(value[0], len(rule)) or not is_ascending(value[1], len(rule)):
        return False
    return len(value[1]) <= mirrors


def shows_failing(rule, mirrors, rows):
    """Return whether any value is a tuple of rows that stop a writer behind each mark of the rule."""
    if not isinstance(rows, tuple) or not all([is_row(rule, mirrors, row) for row in rows]):
        return False
    marks = [mark for mark, lying in rows]
    if sorted(marks) != list(range(len(rule))):
        return False
    for at, (mark, lying) in enumerate(rows):
        if not all([other in marks[:at] for other in fitting(rule, mark, lying)]):
            return False
    return True


def shows_certificate(rule, mirrors, value):
    """Return whether any value is a certificate for the rule."""
    if not isinstance(value, tuple) or len(value) != 2:
        return False
    word, shown = value
    if word == "serves":
        return shows_serving(rule, mirrors, shown)
    if word == "fails":
        return shows_failing(rule, mirrors, shown)
    return False
