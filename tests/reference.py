"""The game of point 6, word by word: what point 3 (d) is tested against."""

import itertools


def fits(rule, mark, lying, candidate):
    return candidate in rule[mark] and not any(other in rule[candidate] for other in lying)


def is_removed(rule, mirrors, mark, left):
    # More lying marks leave less: only as many as there are mirrors need a look.
    for lying in itertools.combinations_with_replacement(range(len(rule)), mirrors):
        if not any(fits(rule, mark, lying, candidate) for candidate in left):
            return True
    return False


def core(rule, mirrors):
    left = tuple(range(len(rule)))
    while True:
        kept = tuple(mark for mark in left if not is_removed(rule, mirrors, mark, left))
        if kept == left:
            return left
        left = kept


def serves(rule, mirrors):
    return core(rule, mirrors) != ()
