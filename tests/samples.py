"""Values and ways of calling that several tests use."""

import copy
import itertools


def nested(depth):
    """Return a value of tuples, lists and dicts, so many levels deep."""
    value = 0
    for level in range(depth):
        value = ((value,), [value], {"a": value})[level % 3]
    return value


def nested_tuples(depth):
    value = ()
    for _ in range(depth):
        value = (value,)
    return value


def nested_lists(depth):
    value = []
    for _ in range(depth):
        value = [value]
    return value


OTHER_KINDS = (
    None, True, False, 0, 1, -1, 15, 16, 10 ** 30, "", "0", "0 1", "a" * 50,
    [], [[]], [()], [(0,)], {}, {0: (0,)}, {"a": [1]}, (None,), ("",), ("0",), (0,), (True,), (False,), ([],), ({},),
    (0, 1), ((0, None),), ((None, 0),), (("0",),), ((0, "1"), (0,)), (((0,),),), ((0, (1,)),), (([0],), (0,)),
    nested(58), nested(59), nested(60), nested_tuples(60), nested_lists(60),
    (nested(58),), ((nested(58),),), ((0, nested(58)), (0,)), (nested_tuples(59),), (nested_lists(59),),
)


def calls_by_name(function, arguments):
    """Return what the function returns, for each order in which the arguments can be named."""
    results = []
    for names in itertools.permutations(arguments):
        results.append(function(**{name: arguments[name] for name in names}))
    return results


def unchanged_by(function, *arguments):
    """Return whether a call leaves its arguments as they were."""
    before = copy.deepcopy(arguments)
    function(*arguments)
    return same(before, arguments)


def same(left, right):
    """Return whether two values are equal and of equal kinds throughout (1 and True are not)."""
    if type(left) is not type(right):
        return False
    if isinstance(left, (list, tuple)):
        return len(left) == len(right) and all(map(same, left, right))
    if isinstance(left, dict):
        return same(list(left.items()), list(right.items()))
    return left == right


def all_rules(marks):
    """Return a generator of all rules for so many marks."""
    rows = [row for size in range(marks + 1) for row in itertools.combinations(range(marks), size)]
    return itertools.product(rows, repeat=marks)


def some_rules(random, marks, count):
    """Return so many rules for so many marks, sparse and dense ones."""
    rules = []
    for at in range(count):
        share = (at + 1) / (count + 1)
        rules.append(tuple(
            tuple(other for other in range(marks) if random.random() < share) for _ in range(marks)))
    return rules
