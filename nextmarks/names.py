"""Named marks: each record names the own value of its successor."""

from nextmarks.kinds import is_below


def rule_of(names):
    """Return the rule of the marks that have these pairs (own, named)."""
    rows = []
    for pair in names:
        rows.append(tuple([other for other in range(len(names)) if names[other][0] == pair[1]]))
    return tuple(rows)


def named_rule(values):
    """Return the rule of named marks with so many values."""
    return rule_of([(own, named) for own in range(values) for named in range(values)])


def side_of(count):
    """Return the number whose square is count, or None if there is none."""
    side = 0
    while side * side < count:
        side += 1
    return side if side * side == count else None


def is_pair(value, values):
    """Return whether any value is a pair of integers from 0 to values - 1."""
    if not isinstance(value, tuple) or len(value) != 2:
        return False
    return is_below(value[0], values) and is_below(value[1], values)


def are_different_pairs(value, values):
    """Return whether any value is a tuple of pairs, none of them there twice."""
    if not isinstance(value, tuple):
        return False
    # First the kinds: values of other kinds may not be put into a set.
    if not all([is_pair(pair, values) for pair in value]):
        return False
    return len(set(value)) == len(value)


def shows_names(rule, value):
    """Return whether any value is names of the rule."""
    values = side_of(len(rule))
    if values is None or not are_different_pairs(value, values):
        return False
    return rule_of(value) == rule


def names_of(rule):
    """Return names of the rule, or None if there are none."""
    # Marks with the same named value have the same followers, which are the marks with that own value. So if there
    # are names, each different row of followers stands for one value, and the values may be numbered in any order.
    groups = sorted(set(rule))
    own_values = {}
    for number, group in enumerate(groups):
        for mark in group:
            own_values[mark] = number
    names = tuple([(own_values.get(mark), groups.index(rule[mark])) for mark in range(len(rule))])
    return names if shows_names(rule, names) else None


def fewest_marks(mirrors):
    """Return the least number of marks with which some rule serves so many mirrors."""
    # Each mirror can forbid one value, and one must be left: named marks with mirrors + 1 values are the smallest.
    values = mirrors + 1
    return values * values
