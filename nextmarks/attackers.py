"""Attackers: they stop every writer behind a mark that is not in the core."""

from nextmarks.errors import BadMark, Unstoppable
from nextmarks.games import core, fitting, removals
from nextmarks.kinds import is_below


class Attacker:
    """Lays marks behind each slot that a writer is about to write."""

    def __init__(self, rule, mirrors, mark):
        if mark in core(rule, mirrors):
            raise Unstoppable(mark)
        self.rule = rule
        self.last = mark
        self.attacks = {other: gone[other] for gone in removals(rule, mirrors) for other in gone}

    def mark(self):
        """Return the mark of the record that was written last."""
        return self.last

    def lying(self):
        """Return the marks that lie behind the slot that is written next."""
        # Behind a mark that the rule does not have nothing fits, whatever lies there.
        return self.attacks.get(self.last, ())

    def wrote(self, value):
        """Take the mark that the writer writes next, any value."""
        # First the kind: True equals 1, but it is no mark.
        if not is_below(value, len(self.rule)) or value not in fitting(self.rule, self.last, self.lying()):
            raise BadMark(value)
        self.last = value

    def is_stopped(self):
        """Return whether no mark fits."""
        return fitting(self.rule, self.last, self.lying()) == ()
