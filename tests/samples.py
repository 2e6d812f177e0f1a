"""Values and ways of calling that several tests use."""

import copy
import itertools
from random import Random

from nextmarks.games import serves
from nextmarks.names import named_rule
from nextmarks.rules import called


def nested(depth):
    """Return a value of tuples, lists and dicts, so many levels deep."""
    value = 0
    for level in range(depth):
        value = ((value,), [value], {"a": value})[level % 3]
    return value


def nested_tuples(depth):
    value = ()
    for _ in range(depth):
        value = (value,)
    return value


def nested_lists(depth):
    value = []
    for _ in range(depth):
        value = [value]
    return value


OTHER_KINDS = (
    None, True, False, 0, 1, -1, 15, 16, 10 ** 30, "", "0", "0 1", "a" * 50,
    [], [[]], [()], [(0,)], {}, {0: (0,)}, {"a": [1]}, (None,), ("",), ("0",), (0,), (True,), (False,), ([],), ({},),
    (0, 1), ((0, None),), ((None, 0),), (("0",),), ((0, "1"), (0,)), (((0,),),), ((0, (1,)),), (([0],), (0,)),
    nested(58), nested(59), nested(60), nested_tuples(60), nested_lists(60),
    (nested(58),), ((nested(58),),), ((0, nested(58)), (0,)), (nested_tuples(59),), (nested_lists(59),),
)

BAD_PAYLOADS = (
    "abcdefghi", "a" * 9, "a" * 1000, "A", "aB", "a b", " a", "a ", " ", "-", "a-", "0", "a1", "\n", "a\n", "`", "{",
    "a:b", "_", None, 0, 1, True, False, (), ("a",), ["a"], {"a": 1}, nested(58), nested_tuples(58), nested_lists(58),
)
BAD_RECORDS = (
    *((0, payload) for payload in BAD_PAYLOADS),
    (16, "a"), (-1, "a"), (10 ** 30, "a"), (True, "a"), (False, "a"), (None, "a"), ("1", "a"), ((1,), "a"), ([1], "a"),
    (0,), ("a",), (0, "a", "b"), (0, "a", None), ("a", 0), (), [0, "a"], [], {0: "a"}, {}, "0a", "0:a", "ab", 0, True,
    None, ((0, "a"),), [(0, "a")], (nested(58), "a"), (nested_tuples(58), nested_lists(58)),
)


def calls_by_name(function, arguments):
    """Return what the function returns, for each order in which the arguments can be named."""
    results = []
    for names in itertools.permutations(arguments):
        results.append(function(**{name: arguments[name] for name in names}))
    return results


def unchanged_by(function, *arguments):
    """Return whether a call leaves its arguments as they were."""
    before = copy.deepcopy(arguments)
    function(*arguments)
    return same(before, arguments)


def same(left, right):
    """Return whether two values are equal and of equal kinds throughout (1 and True are not)."""
    if type(left) is not type(right):
        return False
    if isinstance(left, (list, tuple)):
        return len(left) == len(right) and all(map(same, left, right))
    if isinstance(left, dict):
        return same(list(left.items()), list(right.items()))
    return left == right


def all_rules(marks):
    """Return a generator of all rules for so many marks."""
    rows = [row for size in range(marks + 1) for row in itertools.combinations(range(marks), size)]
    return itertools.product(rows, repeat=marks)


def some_rules(random, marks, count):
    """Return so many rules for so many marks, sparse and dense ones."""
    rules = []
    for at in range(count):
        share = (at + 1) / (count + 1)
        rules.append(tuple(
            tuple(other for other in range(marks) if random.random() < share) for _ in range(marks)))
    return rules


def toggled(rule, mark, other):
    """Return the rule with one follower left out or put in."""
    return rule[:mark] + (tuple(sorted(set(rule[mark]) ^ {other})),) + rule[mark + 1:]


def no_followers(marks):
    return ((),) * marks


def all_followers(marks):
    return (tuple(range(marks)),) * marks


def line(marks):
    return tuple((mark + 1,) for mark in range(marks - 1)) + ((),)


def ring(marks):
    return tuple(((mark + 1) % marks,) for mark in range(marks))


def hub(marks):
    """Return the rule in which all other marks follow mark 0, and mark 0 follows them."""
    return (tuple(range(1, marks)),) + ((0,),) * (marks - 1)


def shapes(marks):
    return [shape(marks) for shape in (no_followers, all_followers, line, ring, hub)]


def enlarged(random, rule, marks):
    """Return a rule for so many marks that has this one in it, its marks scattered, others leading to it."""
    rows = list(rule) + [
        tuple(other for other in range(marks) if random.random() < 0.4) for _ in range(marks - len(rule))]
    order = random.sample(range(marks), marks)
    renamed = [()] * marks
    for mark, row in enumerate(rows):
        renamed[order[mark]] = tuple(sorted(order[other] for other in row))
    return tuple(renamed)


def rules_up_to(most, seed, count):
    """Return rules of one mark to so many marks, some of each number, and some of them with a core."""
    source = Random(seed)
    rules = []
    for marks in range(1, most + 1):
        rules.extend(shapes(marks))
        rules.extend(some_rules(source, marks, count))
        rules.extend(enlarged(source, named_rule(values), marks) for values in (2, 3, 4) if values * values <= marks)
    return rules


def some_payload(source):
    return "".join(source.choice("abcxyz") for _ in range(source.choice((0, 1, 1, 2, 3, 8))))


def some_rings(source, mirrors, slots, marks):
    """Return so many rings of so many records with marks below a number."""
    return tuple(tuple((source.randrange(marks), some_payload(source)) for _ in range(slots)) for _ in range(mirrors))


def some_kept(source, device):
    """Return a value that the crash of the device accepts: all writes are kept, or none, or some."""
    share = source.choice((0, 0.3, 0.5, 0.7, 1))
    return tuple(tuple(source.random() < share for _ in writes) for writes in device.unflushed())


def serving_rules(source, mirrors):
    """Return rules that serve so many mirrors: named ones, also called otherwise, and some with marks beside the core."""
    rules = []
    for values in range(mirrors + 1, 5):
        rule = named_rule(values)
        rules.extend([rule, called(rule, tuple(source.sample(range(len(rule)), len(rule))))])
        rules.extend(enlarged(source, rule, marks) for marks in range(len(rule) + 1, 17, 3))
    others = some_rules(source, 12, 60) if mirrors == 1 else []
    return rules + [rule for rule in others if serves(rule, mirrors)][:4]
