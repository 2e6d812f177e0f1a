"""Point 9: full sight."""

import functools
import itertools
import random
import unittest

import reference
from nextmarks.errors import MarkError, TooMany
from nextmarks.games import core
from nextmarks.names import named_rule
from nextmarks.sight import blocking, ends, family, row_for, shows_sight
from samples import (
    OTHER_KINDS, all_followers, all_rules, calls_by_name, enlarged, line, nested, nested_lists, nested_tuples,
    no_followers, ring, rules_up_to, same, shapes, some_rules, toggled, unchanged_by)


def some_contents(source, count, most, limit=16):
    """Return so many tuples of at most so many lying marks below the limit."""
    return tuple(tuple(source.randrange(limit) for _ in range(source.randrange(most + 1))) for _ in range(count))


def ends_of(rule, mark, contents):
    reached = {mark}
    for lying in contents:
        reached = {other for ahead in reached for other in reference.fitting(rule, ahead, lying)}
    return tuple(sorted(reached))


@functools.lru_cache
def rules_with_families():
    """Return (rule, mirrors, mark) for rules of up to twelve marks with marks that are not blocked."""
    source = random.Random(100)
    rules = [(named_rule(2), 1), (named_rule(3), 1), (named_rule(3), 2)]
    rules.extend((enlarged(source, named_rule(2), marks), 1) for marks in (5, 6, 8, 12))
    rules.extend((enlarged(source, named_rule(3), marks), 2) for marks in (10, 12))
    rules.extend((rule, 1) for rule in some_rules(source, 10, 200))
    return [(rule, mirrors, mark) for rule, mirrors in rules for mark in range(len(rule))
            if () not in reference.least_family(rule, mirrors, mark)]


class Rows(unittest.TestCase):
    def check(self, rule, mark, contents):
        found, last = row_for(rule, mark, contents), ends(rule, mark, contents)
        self.assertTrue(same(last, ends_of(rule, mark, contents)), (rule, mark, contents))
        if last == ():
            self.assertIsNone(found)
        else:
            self.assertTrue(reference.is_row(rule, mark, contents, found), (rule, mark, contents, found))
            self.assertIn((mark, *found)[-1], last)
        return found

    def test_against_all_rows(self):
        source = random.Random(101)
        for rule in [*all_rules(1), *all_rules(2), *some_rules(source, 3, 60), *some_rules(source, 4, 30)]:
            for mark, count in itertools.product(range(len(rule)), range(5)):
                contents = some_contents(source, count, 2, len(rule) + 1)
                rows = reference.all_rows(rule, mark, contents)
                last = tuple(sorted({(mark, *row)[-1] for row in rows}))
                self.assertTrue(same(ends(rule, mark, contents), last))
                self.assertIs(row_for(rule, mark, contents) in rows, rows != [])
                self.check(rule, mark, contents)

    def test_no_contents(self):
        for rule in rules_up_to(16, 102, 2):
            for mark in range(len(rule)):
                self.assertTrue(same(row_for(rule, mark, ()), ()))
                self.assertTrue(same(ends(rule, mark, ()), (mark,)))

    def test_contents_of_none_to_forty(self):
        source = random.Random(103)
        results = set()
        for rule in rules_up_to(16, 104, 5):
            for count in (*range(6), 20, 39, 40):
                found = self.check(rule, source.randrange(len(rule)), some_contents(source, count, 1))
                results.add((count, found is None))
        self.assertTrue({(40, True), (40, False), (1, True), (0, False)} <= results)
        self.assertNotIn((0, True), results)

    def test_contents_with_up_to_three_marks(self):
        source = random.Random(105)
        for rule in rules_up_to(16, 106, 3):
            for count, most in itertools.product((1, 2, 3, 7, 40), (2, 3)):
                self.check(rule, source.randrange(len(rule)), some_contents(source, count, most))

    def test_forty_tuples_that_do_not_hinder(self):
        for count in (1, 2, 39, 40, 41, 60):
            for marks in (1, 2, 3, 16):
                self.assertEqual(ends(ring(marks), 0, ((),) * count), (count % marks,))
                row = tuple(at % marks for at in range(1, count + 1))
                self.assertEqual(row_for(ring(marks), 0, ((),) * count), row)

    def test_marks_that_the_rule_does_not_have(self):
        source = random.Random(107)
        for rule in rules_up_to(16, 108, 2):
            if len(rule) < 14:
                contents = tuple(tuple(source.randrange(len(rule), 16) for _ in range(source.randrange(4)))
                                 for _ in range(10))
                for mark in range(len(rule)):
                    self.assertEqual(ends(rule, mark, contents), ends(rule, mark, ((),) * 10))
                    self.check(rule, mark, contents)

    def test_none_exactly_if_there_are_no_ends(self):
        for count in range(1, 20):
            expected = (count,) if count < 16 else ()
            self.assertEqual(ends(line(16), 0, ((),) * count), expected)
            self.assertEqual(row_for(line(16), 0, ((),) * count) is None, count > 15)

    def test_marks_that_lead_nowhere(self):
        # Of 1 and 2, which may follow 0, only 2 leads on; of 3 and 4, only one leads to an end.
        rule = ((1, 2), (), (3, 4), (), (5,), ())
        self.assertEqual(row_for(rule, 0, ((), (), ())), (2, 4, 5))
        self.assertEqual(row_for(rule, 0, ((), ())) in ((2, 3), (2, 4)), True)
        self.assertEqual(ends(rule, 0, ((), ())), (3, 4))

    def test_arguments(self):
        arguments = {"rule": ((1,), (2,), (0, 1, 2)), "mark": 2, "contents": ((0,),)}
        self.assertEqual(calls_by_name(ends, arguments), [(0, 1)] * 6)
        for row in calls_by_name(row_for, arguments):
            self.assertIn(row, ((0,), (1,)))
        for function in (ends, row_for):
            self.assertTrue(unchanged_by(function, *arguments.values()))


class Blocking(unittest.TestCase):
    def check(self, rule, mirrors, mark):
        """Check that the contents block, and return how many there are, or None."""
        contents = blocking(rule, mirrors, mark)
        members = family(rule, mirrors, mark)
        self.assertEqual(contents is None, members is not None)
        if contents is None:
            return None
        self.assertIsInstance(contents, tuple)
        for lying in contents:
            self.assertIsInstance(lying, tuple)
            self.assertLessEqual(len(lying), mirrors)
            self.assertTrue(all(type(lies) is int and 0 <= lies <= 15 for lies in lying))
        self.assertEqual(ends_of(rule, mark, contents), ())
        self.assertEqual(ends(rule, mark, contents), ())
        self.assertIsNone(row_for(rule, mark, contents))
        return len(contents)

    def test_against_all_contents(self):
        source = random.Random(110)
        rules = [*all_rules(1), *all_rules(2), *some_rules(source, 3, 40)]
        for rule, mirrors in itertools.product(rules, (1, 2, 3)):
            for mark in range(len(rule)):
                # A rule of two marks has three sets that are not empty, so at most three contents are enough.
                found = self.check(rule, mirrors, mark)
                self.assertIsNotNone(found)
                self.assertEqual(found, reference.fewest_blocking(rule, mirrors, mark, 3))

    def test_all_rules_of_three_marks(self):
        for rule, mirrors, mark in itertools.product(all_rules(3), (1, 2, 3), range(3)):
            self.assertEqual(self.check(rule, mirrors, mark), reference.fewest_by_sets(rule, mirrors, mark))

    def test_some_rules_of_four_marks(self):
        for rule in itertools.islice(all_rules(4), 0, None, 119):
            for mirrors, mark in itertools.product((1, 2), range(4)):
                self.assertEqual(self.check(rule, mirrors, mark), reference.fewest_by_sets(rule, mirrors, mark))

    def test_larger_rules(self):
        source = random.Random(111)
        counts = set()
        for marks in (5, 6, 8, 12):
            rules = [*shapes(marks), *some_rules(source, marks, 12), enlarged(source, named_rule(2), marks)]
            for rule, mirrors in itertools.product(rules, (1, 2)):
                mark = source.randrange(marks)
                found = self.check(rule, mirrors, mark)
                self.assertEqual(found, reference.fewest_by_sets(rule, mirrors, mark))
                counts.add(found)
        self.assertTrue({None, 1, 2, 3} <= counts, counts)

    def test_contents_that_must_be_long(self):
        counts = set()
        for rule in some_rules(random.Random(112), 12, 400):
            found = self.check(rule, 1, 0)
            if found is None or found > 3:
                self.assertEqual(found, reference.fewest_by_sets(rule, 1, 0))
                counts.add(found)
        self.assertTrue({None, 4, 5, 6, 7, 8, 10} <= counts, counts)

    def test_three_mirrors(self):
        for marks in (9, 12):
            for rule in [*shapes(marks), named_rule(3), *some_rules(random.Random(114), marks, 4)]:
                self.assertEqual(self.check(rule, 3, 0), reference.fewest_by_sets(rule, 3, 0))

    def test_named_marks(self):
        for values, mirrors in itertools.product((1, 2, 3), (1, 2, 3)):
            for mark in range(values * values):
                found = self.check(named_rule(values), mirrors, mark)
                self.assertEqual(found, 1 if values <= mirrors else None)

    def test_marks_without_followers(self):
        for marks in range(1, 13):
            self.assertEqual(len(blocking(no_followers(marks), 1, marks - 1)), 1)

    def test_too_many_marks(self):
        for marks in (13, 14, 15, 16):
            for rule in (*shapes(marks), *some_rules(random.Random(113), marks, 3)):
                for function, mirrors in itertools.product((blocking, family), (1, 2, 3)):
                    with self.assertRaises(TooMany) as caught:
                        function(rule, mirrors, marks - 1)
                    self.assertTrue(same(caught.exception.count, marks))
                    self.assertIsInstance(caught.exception, MarkError)

    def test_twelve_marks_are_not_too_many(self):
        for mirrors in (1, 2, 3):
            self.assertEqual(blocking(all_followers(12), mirrors, 11), ((0,),))
            self.assertIsNone(family(all_followers(12), mirrors, 11))
        self.assertEqual(len(blocking(line(12), 3, 11)), 1)

    def test_arguments(self):
        for function, result in ((blocking, ((0,),)), (family, None)):
            self.assertEqual(calls_by_name(function, {"rule": ((0,),), "mirrors": 1, "mark": 0}), [result] * 6)
            self.assertTrue(unchanged_by(function, named_rule(2), 1, 0))


class Family(unittest.TestCase):
    def check(self, rule, mirrors, mark):
        members = reference.least_family(rule, mirrors, mark)
        found = family(rule, mirrors, mark)
        self.assertTrue(same(found, None if () in members else members), (rule, mirrors, mark))
        return found

    def test_all_rules_of_up_to_three_marks(self):
        for marks in (1, 2, 3):
            for rule, mirrors, mark in itertools.product(all_rules(marks), (1, 2), range(marks)):
                self.assertIsNone(self.check(rule, mirrors, mark))

    def test_rules_of_four_marks(self):
        for rule in itertools.islice(all_rules(4), 0, None, 119):
            for mark in range(4):
                self.check(rule, 1, mark)

    def test_rules_with_families(self):
        cases = rules_with_families()
        # Some rules have families though they do not serve.
        self.assertIn((), [core(rule, mirrors) for rule, mirrors, mark in cases])
        for rule, mirrors, mark in cases:
            self.assertIsNotNone(self.check(rule, mirrors, mark))

    def test_larger_rules(self):
        source = random.Random(120)
        for marks in range(5, 13):
            for rule, mirrors in itertools.product(some_rules(source, marks, 8), (1, 2, 3)):
                self.check(rule, mirrors, source.randrange(marks))

    def test_every_family_has_its_members(self):
        sets = [marks for count in (1, 2, 3, 4) for marks in itertools.combinations(range(4), count)]
        for rule in (named_rule(2), toggled(named_rule(2), 0, 3)):
            least = family(rule, 1, 0)
            seen = 0
            for chosen in itertools.product((False, True), repeat=len(sets)):
                members = tuple(sorted(itertools.compress(sets, chosen)))
                if (0,) in members and shows_sight(rule, 1, 0, members):
                    self.assertTrue(set(least) <= set(members))
                    seen += 1
            self.assertEqual(seen > 0, least is not None)


class ShowsSight(unittest.TestCase):
    def assert_shows(self, rule, mirrors, mark, value):
        self.assertIs(shows_sight(rule, mirrors, mark, value), True, (rule, mirrors, mark, value))

    def assert_shows_not(self, rule, mirrors, mark, value):
        self.assertIs(shows_sight(rule, mirrors, mark, value), False, (rule, mirrors, mark, value))

    def check(self, rule, mirrors, mark, value):
        right = reference.is_family(rule, mirrors, mark, value)
        self.assertIs(shows_sight(rule, mirrors, mark, value), right, (rule, mirrors, mark, value))
        return right

    def test_all_choices_of_members_for_small_rules(self):
        for marks, mirrors in itertools.product((1, 2), (1, 2, 3)):
            sets = sorted(found for count in range(1, marks + 1)
                          for found in itertools.combinations(range(marks), count))
            for rule, mark in itertools.product(all_rules(marks), range(marks)):
                for chosen in itertools.product((False, True), repeat=len(sets)):
                    self.assertFalse(self.check(rule, mirrors, mark, tuple(itertools.compress(sets, chosen))))

    def test_the_family_returned(self):
        for rule, mirrors, mark in rules_with_families():
            members = family(rule, mirrors, mark)
            self.assert_shows(rule, mirrors, mark, members)
            for other in range(len(rule)):
                self.assertIs(shows_sight(rule, mirrors, other, members), (other,) in members)

    def test_fewer_and_more_mirrors(self):
        members = family(named_rule(3), 2, 0)
        self.assertEqual([shows_sight(named_rule(3), mirrors, 0, members) for mirrors in (1, 2, 3)],
                         [True, True, False])
        self.assert_shows_not(named_rule(3), 2, 0, family(named_rule(3), 1, 0))

    def test_two_families_together(self):
        cases = rules_with_families()
        for (rule, mirrors, mark), (rule_2, mirrors_2, mark_2) in itertools.pairwise(cases):
            if (rule, mirrors) == (rule_2, mirrors_2):
                both = set(family(rule, mirrors, mark)) | set(family(rule, mirrors, mark_2))
                members = tuple(sorted(both))
                self.assert_shows(rule, mirrors, mark, members)
                self.assert_shows(rule, mirrors, mark_2, members)

    def test_a_member_left_out(self):
        for rule, mirrors, mark in rules_with_families():
            members = family(rule, mirrors, mark)
            for at in range(0, len(members), 1 + len(members) // 30):
                self.assert_shows_not(rule, mirrors, mark, members[:at] + members[at + 1:])

    def test_a_member_put_in(self):
        source = random.Random(130)
        results = set()
        for rule, mirrors, mark in rules_with_families():
            members = family(rule, mirrors, mark)
            if len(members) < 60:
                for _ in range(5):
                    count = source.randrange(1, len(rule) + 1)
                    further = tuple(sorted(source.sample(range(len(rule)), count)))
                    results.add(self.check(rule, mirrors, mark, tuple(sorted({*members, further}))))
        self.assertEqual(results, {True, False})

    def test_all_sets_of_marks(self):
        for rule, mirrors in ((named_rule(2), 1), (toggled(named_rule(2), 0, 3), 1), (named_rule(3), 2),
                              (named_rule(3), 3)):
            sets = [found for count in range(1, len(rule) + 1)
                    for found in itertools.combinations(range(len(rule)), count)]
            self.check(rule, mirrors, 0, tuple(sorted(sets)))

    def test_sixteen_marks(self):
        for mirrors in (1, 2, 3):
            members = reference.least_family(named_rule(4), mirrors, 5)
            self.assert_shows(named_rule(4), mirrors, 5, members)
            for at in range(0, len(members), 40):
                self.assert_shows_not(named_rule(4), mirrors, 5, members[:at] + members[at + 1:])
        self.assert_shows_not(toggled(named_rule(4), 5, 4), 3, 5, members)
        for rule in (*shapes(16), *some_rules(random.Random(131), 16, 4)):
            self.assert_shows_not(rule, 3, 15, members)
            self.assert_shows_not(rule, 3, 15, ((15,),))

    def test_empty_members(self):
        for rule, mark in ((((0,),), 0), (((),), 0), (named_rule(2), 0)):
            members = family(rule, 1, mark) or ((mark,),)
            self.assert_shows_not(rule, 1, mark, ((),) + members)
            self.assert_shows_not(rule, 1, mark, ((), (mark,)))
            self.assert_shows_not(rule, 1, mark, ((),))
            self.assert_shows_not(rule, 1, mark, ())

    def test_members_that_are_not_ascending(self):
        members = family(named_rule(2), 1, 0)
        self.assertIn((0, 1), members)
        at = members.index((0, 1))
        for wrong in ((1, 0), (0, 0, 1), (0, 1, 1), (0, 1, 0), (0, 1, 4), (-1, 0, 1), (0, 16)):
            self.assert_shows_not(named_rule(2), 1, 0, members[:at] + (wrong,) + members[at + 1:])
            self.assert_shows_not(named_rule(2), 1, 0, tuple(sorted({*members, wrong})))

    def test_families_that_are_not_ascending(self):
        members = family(named_rule(2), 1, 0)
        self.assert_shows_not(named_rule(2), 1, 0, members[::-1])
        for at in range(len(members)):
            self.assert_shows_not(named_rule(2), 1, 0, members[:at] + members[at:at + 1] + members[at:])
        for at in range(1, len(members)):
            exchanged = members[:at - 1] + (members[at], members[at - 1]) + members[at + 1:]
            self.assert_shows_not(named_rule(2), 1, 0, exchanged)
        # First the short ones and then the long ones is not Python's order of tuples.
        self.assert_shows_not(named_rule(2), 1, 0, tuple(sorted(members, key=len)))

    def test_bools_are_no_integers(self):
        members = family(named_rule(2), 1, 0)
        for at, marks in enumerate(members):
            for place, mark in enumerate(marks):
                if mark in (0, 1):
                    changed = marks[:place] + (bool(mark),) + marks[place + 1:]
                    self.assert_shows_not(named_rule(2), 1, 0, members[:at] + (changed,) + members[at + 1:])

    def test_lists_are_no_tuples(self):
        members = family(named_rule(2), 1, 0)
        self.assert_shows_not(named_rule(2), 1, 0, list(members))
        self.assert_shows_not(named_rule(2), 1, 0, [list(marks) for marks in members])
        for at in range(len(members)):
            self.assert_shows_not(named_rule(2), 1, 0, members[:at] + (list(members[at]),) + members[at + 1:])

    def test_values_of_other_kinds(self):
        members = family(named_rule(2), 1, 0)
        for value in (*OTHER_KINDS, nested(57), nested_tuples(57), nested_lists(57)):
            for rule in (((0,),), named_rule(2)):
                for wrong in (value, (value,), ((value,),), ((0,), value), ((0,), (value,)), (value, (0,))):
                    self.assert_shows_not(rule, 1, 0, wrong)
            self.assert_shows_not(named_rule(2), 1, 0, members + (value,))
            self.assert_shows_not(named_rule(2), 1, 0, (value,) + members)
            for at in range(1, len(members)):
                if not same(value, members[at]):
                    self.assert_shows_not(named_rule(2), 1, 0, members[:at] + (value,) + members[at + 1:])

    def test_arguments(self):
        members = family(named_rule(2), 1, 0)
        arguments = {"rule": named_rule(2), "mirrors": 1, "mark": 0, "value": members}
        self.assertEqual(calls_by_name(shows_sight, arguments), [True] * 24)
        for value in (members, *OTHER_KINDS, [[0], [0, 1]], ([0], {"a": [1]})):
            self.assertTrue(unchanged_by(shows_sight, named_rule(2), 1, 0, value))


if __name__ == "__main__":
    unittest.main()
