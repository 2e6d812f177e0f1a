"""Rules: which marks may follow which."""

from nextmarks.kinds import is_ascending

MOST_MARKS = 16


def is_rule(value):
    """Return whether any value is a rule."""
    if not isinstance(value, tuple) or not 1 <= len(value) <= MOST_MARKS:
        return False
    return all([is_ascending(followers, len(value)) for followers in value])


def may_follow(rule, mark, other):
    """Return whether other may follow mark."""
    # A mark that the rule does not have stands in none of its tuples, but it must not be used as an index.
    return 0 <= mark < len(rule) and other in rule[mark]


def called(rule, order):
    """Return the rule in which mark a is called order[a]."""
    rows = [()] * len(rule)
    for mark, followers in enumerate(rule):
        rows[order[mark]] = tuple(sorted([order[other] for other in followers]))
    return tuple(rows)


def cut_down(rule, marks):
    """Return the rule in which only these marks follow and are followed."""
    rows = []
    for mark, followers in enumerate(rule):
        if mark in marks:
            rows.append(tuple([other for other in followers if other in marks]))
        else:
            rows.append(())
    return tuple(rows)
