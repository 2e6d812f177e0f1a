"""Points 6, 7 and 9 word by word, with all lying marks written out: what the package is tested against."""

import functools
import itertools


def all_lying(marks, mirrors):
    """Return all lying marks below a number, at most as many as mirrors; their sequence does not matter."""
    return [lying for count in range(mirrors + 1)
            for lying in itertools.combinations_with_replacement(range(marks), count)]


def fits(rule, mark, lying, candidate):
    if mark >= len(rule) or candidate not in rule[mark]:
        return False
    return not any(other in rule[candidate] for other in lying)


def fitting(rule, mark, lying):
    return tuple(candidate for candidate in range(len(rule)) if fits(rule, mark, lying, candidate))


@functools.lru_cache(maxsize=1000)
def spared_sets(rule, mirrors):
    """Return, for all lying marks, the sets of the marks that none of them may follow."""
    return {frozenset(candidate for candidate in range(len(rule)) if not set(rule[candidate]) & set(lying))
            for lying in all_lying(len(rule), mirrors)}


@functools.lru_cache(maxsize=1000)
def rounds(rule, mirrors):
    spared = spared_sets(rule, mirrors)
    left = frozenset(range(len(rule)))
    removed = []
    while True:
        gone = tuple(mark for mark in sorted(left) if not all(left & set(rule[mark]) & marks for marks in spared))
        if not gone:
            return tuple(removed)
        removed.append(gone)
        left -= set(gone)


def core(rule, mirrors):
    removed = set().union(*rounds(rule, mirrors))
    return tuple(mark for mark in range(len(rule)) if mark not in removed)


def serves(rule, mirrors):
    return core(rule, mirrors) != ()


def can_append(rule, mirrors, mark, count):
    """Return whether a writer can append so often behind the mark, whatever lies there."""
    if count == 0:
        return True
    after = [other for other in rule[mark] if can_append(rule, mirrors, other, count - 1)]
    return all(any(fits(rule, mark, lying, other) for other in after) for lying in all_lying(len(rule), mirrors))


def is_serving(rule, mirrors, marks):
    """Return whether ("serves", marks) is a certificate; marks is an ascending tuple of marks of the rule."""
    return bool(marks) and all(
        any(fits(rule, mark, lying, other) for other in marks)
        for mark in marks for lying in all_lying(len(rule), mirrors))


def is_failing(rule, mirrors, rows):
    """Return whether ("fails", rows) is a certificate; rows have a mark and ascending lying marks of the rule."""
    if sorted(mark for mark, _ in rows) != list(range(len(rule))):
        return False
    earlier = []
    for mark, lying in rows:
        if len(lying) > mirrors or not set(fitting(rule, mark, lying)) <= set(earlier):
            return False
        earlier.append(mark)
    return True


def is_row(rule, mark, contents, row):
    if not isinstance(row, tuple) or len(row) != len(contents):
        return False
    ahead = (mark,) + row
    return all(fits(rule, ahead[at], contents[at], row[at]) for at in range(len(row)))


def all_rows(rule, mark, contents):
    return [row for row in itertools.product(range(len(rule)), repeat=len(contents))
            if is_row(rule, mark, contents, row)]


def fewest_blocking(rule, mirrors, mark, most):
    """Return the length of the shortest contents, of at most so many, that block the mark, or None."""
    for count in range(1, most + 1):
        for contents in itertools.product(all_lying(len(rule), mirrors), repeat=count):
            if not all_rows(rule, mark, contents):
                return count
    return None


def all_behind(rule, mirrors, marks):
    """Return, for all lying marks, the ascending tuples of the marks that fit behind some of these marks."""
    followers = frozenset().union(*(rule[mark] for mark in marks))
    return [tuple(sorted(left)) for left in {followers & spared for spared in spared_sets(rule, mirrors)}]


def fewest_by_sets(rule, mirrors, mark):
    """Return the length of the shortest contents that block the mark, or None: by the sets of marks they leave."""
    reached = known = {(mark,)}
    count = 0
    while reached and () not in reached:
        count += 1
        reached = {left for marks in reached for left in all_behind(rule, mirrors, marks)} - known
        known = known | reached
    return count if reached else None


@functools.lru_cache(maxsize=1000)
def least_family(rule, mirrors, mark):
    """Return the members that every family for the mark must have, the empty one too if it is among them."""
    found = {(mark,)}
    waiting = [(mark,)]
    while waiting:
        for left in all_behind(rule, mirrors, waiting.pop()):
            if left not in found:
                found.add(left)
                waiting.append(left)
    return tuple(sorted(found))


def is_family(rule, mirrors, mark, members):
    """Return whether members, an ascending tuple of ascending tuples of marks of the rule, is a family."""
    if (mark,) not in members or () in members:
        return False
    return all(set(all_behind(rule, mirrors, marks)) <= set(members) for marks in members)
