"""Full sight: a writer that sees what lies in all slots ahead.

Where all sets of marks are explored, a set is a number: its bit a stands for mark a.
"""

from nextmarks.errors import TooMany
from nextmarks.games import fitting
from nextmarks.kinds import is_ascending
from nextmarks.rules import may_follow

MOST_EXPLORED = 12


def fitting_behind(rule, marks, lying):
    """Return the ascending tuple of the marks that fit behind some of these marks with these lying marks."""
    return tuple(sorted({other for mark in marks for other in fitting(rule, mark, lying)}))


def layers(rule, mark, contents):
    """Return the ascending tuples of the marks that rows reach: the mark itself, then one for each Xk."""
    found = [(mark,)]
    for lying in contents:
        found.append(fitting_behind(rule, found[-1], lying))
    return found


def ends(rule, mark, contents):
    """Return the ascending tuple of the last marks of all rows for the contents."""
    return layers(rule, mark, contents)[-1]


def row_for(rule, mark, contents):
    """Return a row for the contents, or None if there is none."""
    found = layers(rule, mark, contents)
    if found[-1] == ():
        return None
    row = [found[-1][0]]
    # Backwards, because a mark always has one ahead of it, but it may have none behind it.
    for layer in found[-2::-1]:
        ahead = [other for other in layer if may_follow(rule, other, row[-1])]
        row.append(ahead[0])
    # The one found last is the mark that the row begins behind.
    return tuple(row[-2::-1])


def set_of(marks):
    """Return the set of these marks."""
    members = 0
    for mark in marks:
        members |= 1 << mark
    return members


def marks_of(members, count):
    """Return the ascending tuple of the marks below count that the set has."""
    return tuple([mark for mark in range(count) if (members >> mark) & 1])


def follower_sets(rule):
    """Return for each mark the set of the marks that may follow it."""
    return [set_of(followers) for followers in rule]


def spared_sets(rule):
    """Return for each mark, if it lies there, the set of the marks that it does not keep from fitting."""
    marks = list(range(len(rule)))
    return [set_of([mark for mark in marks if lies not in rule[mark]]) for lies in marks]


def joined(followers, members):
    """Return the set of the marks that may follow some mark of the set."""
    ahead = 0
    for mark, others in enumerate(followers):
        if (members >> mark) & 1:
            ahead |= others
    return ahead


def outcomes(spared, mirrors, ahead):
    """Return the sets that lying marks, at most as many as mirrors, leave of the set ahead, each with such marks."""
    found = {ahead: ()}
    newest = [ahead]
    # Many lying marks leave the same set: it is enough to go on once from each set that is left.
    for more in range(mirrors):
        further = []
        for members in newest:
            for lies, others in enumerate(spared):
                left = members & others
                if left not in found:
                    found[left] = tuple(sorted([*found[members], lies]))
                    further.append(left)
        newest = further
    return found


def explored(rule, mirrors, mark):
    """Return the sets of marks that contents leave, each with the set ahead of it and the lying marks between.

    Those that fewer Xk leave come first. It ends with the empty set, if that is found.
    """
    if len(rule) > MOST_EXPLORED:
        raise TooMany(len(rule))
    followers = follower_sets(rule)
    spared = spared_sets(rule)
    found = {set_of((mark,)): None}
    newest = list(found)
    while newest and 0 not in found:
        further = []
        for members in newest:
            after = outcomes(spared, mirrors, joined(followers, members))
            for left, lying in after.items():
                if left not in found:
                    found[left] = (members, lying)
                    further.append(left)
        newest = further
    return found


def blocking(rule, mirrors, mark):
    """Return contents that block the mark, as few Xk as possible, or None if there are none."""
    found = explored(rule, mirrors, mark)
    if 0 not in found:
        return None
    contents = []
    step = found[0]
    while step is not None:
        members, lying = step
        contents.append(lying)
        step = found[members]
    return tuple(contents[::-1])


def family(rule, mirrors, mark):
    """Return the family whose members every family for the mark has, or None if the mark is blocked."""
    found = explored(rule, mirrors, mark)
    if 0 in found:
        return None
    return tuple(sorted([marks_of(members, len(rule)) for members in found]))


def are_members(value, count):
    """Return whether any value is an ascending tuple of non-empty ascending tuples of marks below count."""
    if not isinstance(value, tuple):
        return False
    # First the kinds: values of other kinds may have no order.
    if not all([is_ascending(marks, count) and len(marks) > 0 for marks in value]):
        return False
    return all([value[at - 1] < value[at] for at in range(1, len(value))])


def shows_sight(rule, mirrors, mark, value):
    """Return whether any value is a family for the mark."""
    if not are_members(value, len(rule)) or (mark,) not in value:
        return False
    followers = follower_sets(rule)
    spared = spared_sets(rule)
    known = {set_of(marks): True for marks in value}
    # Many members have the same marks ahead: what they leave is asked once.
    for ahead in sorted({joined(followers, members) for members in known}):
        if not all([left in known for left in outcomes(spared, mirrors, ahead)]):
            return False
    return True
