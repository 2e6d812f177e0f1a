"""The game: an attacker lays marks behind each slot, a writer looks at them and chooses a mark that fits."""

from nextmarks.rules import may_follow


def is_barred(rule, lying, other):
    """Return whether some of these lying marks may follow other."""
    return any([may_follow(rule, other, lies) for lies in lying])


def fits(rule, mark, lying, other):
    """Return whether other fits behind the mark with these lying marks."""
    return may_follow(rule, mark, other) and not is_barred(rule, lying, other)


def fitting(rule, mark, lying):
    """Return the ascending tuple of the marks that fit behind the mark with these lying marks."""
    return tuple([other for other in range(len(rule)) if fits(rule, mark, lying, other)])


def barring(rule, mirrors, marks):
    """Return lying marks, at most as many as mirrors, one of which may follow each of these marks, or None."""
    if not marks:
        return ()
    if mirrors < 1:
        return None
    # One of the lying marks must follow this one; there is least to try for the one with the fewest followers.
    hardest = min(marks, key=lambda mark: len(rule[mark]))
    for lies in rule[hardest]:
        rest = barring(rule, mirrors - 1, [mark for mark in marks if lies not in rule[mark]])
        if rest is not None:
            return tuple(sorted([lies, *rest]))
    return None


def attack(rule, mirrors, mark, left):
    """Return lying marks, at most as many as mirrors, with which no mark that is left fits, or None."""
    return barring(rule, mirrors, [other for other in left if may_follow(rule, mark, other)])


def removed_from(rule, mirrors, left):
    """Return the marks that a round removes from those left, each with lying marks that remove it."""
    gone = {}
    for mark in left:
        lying = attack(rule, mirrors, mark, left)
        if lying is not None:
            gone[mark] = lying
    return gone


def removals(rule, mirrors):
    """Return the rounds: for each one the marks that it removes, each with lying marks that remove it."""
    found = []
    left = list(range(len(rule)))
    gone = removed_from(rule, mirrors, left)
    while gone:
        found.append(gone)
        left = [mark for mark in left if mark not in gone]
        gone = removed_from(rule, mirrors, left)
    return found


def rounds(rule, mirrors):
    """Return the tuple of the ascending tuples of the marks that the rounds remove."""
    return tuple([tuple(gone) for gone in removals(rule, mirrors)])


def core(rule, mirrors):
    """Return the ascending tuple of the marks that no round removes."""
    removed = [mark for gone in removals(rule, mirrors) for mark in gone]
    return tuple([mark for mark in range(len(rule)) if mark not in removed])


def serves(rule, mirrors):
    """Return whether the rule serves so many mirrors."""
    return core(rule, mirrors) != ()


def appends_left(rule, mirrors, mark):
    """Return how often a writer can append behind the mark, whatever lies there, or None if without end."""
    for at, gone in enumerate(removals(rule, mirrors)):
        if mark in gone:
            return at
    return None


def least_fitting(rule, marks, mark, lying):
    """Return the first of these marks that fits behind the mark with these lying marks, or None."""
    for other in marks:
        if fits(rule, mark, lying, other):
            return other
    return None


def least_unbarred(rule, marks, lying):
    """Return the first of these marks that none of the lying marks may follow, or None."""
    for other in marks:
        if not is_barred(rule, lying, other):
            return other
    return None


def choice(rule, mirrors, mark, lying):
    """Return the least mark of the core that fits behind the mark with these lying marks, or None."""
    return least_fitting(rule, core(rule, mirrors), mark, lying)
