"""Point 6: the game."""

import itertools
import random
import unittest

import reference
from nextmarks.games import appends_left, choice, core, fitting, rounds, serves
from nextmarks.names import named_rule
from nextmarks.rules import called
from samples import (
    all_followers, all_rules, calls_by_name, enlarged, hub, line, no_followers, ring, rules_up_to, same, some_rules,
    toggled, unchanged_by)


class Fitting(unittest.TestCase):
    def test_all_small_rules_with_all_lying_marks(self):
        for marks in (1, 2):
            for rule, mark in itertools.product(all_rules(marks), range(marks)):
                for lying in reference.all_lying(4, 3):
                    self.assertTrue(same(fitting(rule, mark, lying), reference.fitting(rule, mark, lying)))

    def test_rules_of_all_sizes_with_none_to_three_lying_marks(self):
        source = random.Random(61)
        for rule in rules_up_to(16, 60, 6):
            for count in (0, 1, 2, 3):
                for _ in range(5):
                    mark = source.randrange(len(rule))
                    lying = tuple(source.randrange(16) for _ in range(count))
                    found = fitting(rule, mark, lying)
                    self.assertTrue(same(found, reference.fitting(rule, mark, lying)), (rule, mark, lying))
                    self.assertEqual(list(found), sorted(set(found)))

    def test_no_lying_marks(self):
        for rule in rules_up_to(16, 62, 3):
            for mark in range(len(rule)):
                self.assertEqual(fitting(rule, mark, ()), rule[mark])

    def test_equal_lying_marks_count_once(self):
        for rule in rules_up_to(16, 63, 3):
            for mark, lies in itertools.product(range(len(rule)), repeat=2):
                self.assertEqual(fitting(rule, mark, (lies, lies)), fitting(rule, mark, (lies,)))
                self.assertEqual(fitting(rule, mark, (lies, lies, lies)), fitting(rule, mark, (lies,)))

    def test_lying_marks_that_the_rule_does_not_have(self):
        for rule in rules_up_to(16, 64, 3):
            for mark in range(len(rule)):
                for lies in range(len(rule), 16):
                    self.assertEqual(fitting(rule, mark, (lies,)), rule[mark])
                    self.assertEqual(fitting(rule, mark, (lies, 0, 15 if len(rule) < 16 else lies)),
                                     fitting(rule, mark, (0,)))

    def test_sequence_of_the_lying_marks_does_not_matter(self):
        source = random.Random(65)
        for rule in rules_up_to(16, 65, 4):
            mark = source.randrange(len(rule))
            lying = tuple(source.randrange(16) for _ in range(3))
            found = {fitting(rule, mark, order) for order in itertools.permutations(lying)}
            self.assertEqual(len(found), 1)

    def test_the_mark_itself(self):
        # That a lying mark may follow the mark ahead, or the mark itself the lying one, does not matter.
        self.assertEqual(fitting(((0, 1), ()), 0, (1,)), (1,))
        self.assertEqual(fitting(((1,), (0,)), 0, (1,)), (1,))
        self.assertEqual(fitting(((1,), (0,)), 0, (0,)), ())

    def test_arguments(self):
        rule = named_rule(2)
        self.assertEqual(calls_by_name(fitting, {"rule": rule, "mark": 1, "lying": (3,)}), [(2,)] * 6)
        self.assertTrue(unchanged_by(fitting, rule, 1, (3,)))


class Rounds(unittest.TestCase):
    def check(self, rule, mirrors):
        found = rounds(rule, mirrors)
        left = core(rule, mirrors)
        self.assertTrue(same(found, reference.rounds(rule, mirrors)), (rule, mirrors))
        self.assertTrue(same(left, reference.core(rule, mirrors)), (rule, mirrors))
        self.assertIs(serves(rule, mirrors), left != ())
        self.assertEqual(sorted([*itertools.chain(*found), *left]), list(range(len(rule))))
        for mark in range(len(rule)):
            counted = [at for at, gone in enumerate(found) if mark in gone]
            self.assertTrue(same(appends_left(rule, mirrors, mark), counted[0] if counted else None))

    def check_all(self, rules):
        for rule, mirrors in itertools.product(rules, (1, 2, 3)):
            self.check(rule, mirrors)

    def test_rules_of_one_mark(self):
        for mirrors in (1, 2, 3):
            for rule in (((),), ((0,),)):
                self.assertEqual(rounds(rule, mirrors), ((0,),))
                self.assertEqual(core(rule, mirrors), ())
                self.assertIs(serves(rule, mirrors), False)
                self.assertEqual(appends_left(rule, mirrors, 0), 0)

    def test_all_rules_of_up_to_three_marks(self):
        for marks in (1, 2, 3):
            self.check_all(all_rules(marks))

    def test_some_rules_of_four_marks(self):
        self.check_all(itertools.islice(all_rules(4), 0, None, 97))

    def test_rules_of_all_sizes(self):
        self.check_all(rules_up_to(16, 66, 5))

    def test_no_followers_and_all(self):
        for marks, mirrors in itertools.product(range(1, 17), (1, 2, 3)):
            self.assertEqual(rounds(no_followers(marks), mirrors), (tuple(range(marks)),))
            self.assertEqual(rounds(all_followers(marks), mirrors), (tuple(range(marks)),))

    def test_line(self):
        # The last mark has no followers and the one ahead of it cannot be kept from it; all others can.
        for marks, mirrors in itertools.product(range(2, 17), (1, 2, 3)):
            others = tuple(mark for mark in range(marks) if mark != marks - 2)
            self.assertEqual(rounds(line(marks), mirrors), (others, (marks - 2,)))

    def test_ring(self):
        for marks, mirrors in itertools.product(range(1, 17), (1, 2, 3)):
            self.assertEqual(rounds(ring(marks), mirrors), (tuple(range(marks)),))

    def test_hub(self):
        # Behind the hub one lying hub keeps all others from fitting.
        for marks, mirrors in itertools.product(range(2, 17), (1, 2, 3)):
            self.assertEqual(rounds(hub(marks), mirrors), (tuple(range(marks)),))

    def test_named_marks(self):
        for values, mirrors in itertools.product((1, 2, 3, 4), (1, 2, 3)):
            everything = tuple(range(values * values))
            rule = named_rule(values)
            self.check(rule, mirrors)
            if values > mirrors:
                self.assertEqual((rounds(rule, mirrors), core(rule, mirrors)), ((), everything))
            else:
                self.assertEqual((rounds(rule, mirrors), core(rule, mirrors)), ((everything,), ()))

    def test_named_marks_with_a_follower_left_out_or_put_in(self):
        source = random.Random(67)
        for values in (1, 2, 3, 4):
            rule = named_rule(values)
            places = list(itertools.product(range(len(rule)), repeat=2))
            for mark, other in source.sample(places, min(len(places), 100)):
                self.check_all([toggled(rule, mark, other)])

    def test_rules_with_many_rounds(self):
        source = random.Random(68)
        most = 0
        for rule in some_rules(source, 16, 300):
            if len(rounds(rule, 1)) > 4:
                most = max(most, len(rounds(rule, 1)))
                self.check(rule, 1)
        self.assertGreater(most, 6)

    def test_rules_with_a_core_and_marks_that_are_removed(self):
        source = random.Random(69)
        for mirrors in (1, 2, 3):
            least = (mirrors + 1) ** 2
            seen = 0
            for marks in range(least, 17):
                for _ in range(10):
                    rule = enlarged(source, named_rule(mirrors + 1), marks)
                    self.check(rule, mirrors)
                    seen += 0 < len(core(rule, mirrors)) < marks
            self.assertTrue(seen > 10 or mirrors == 3)

    def test_marks_called_otherwise(self):
        source = random.Random(70)
        for rule in rules_up_to(16, 71, 2):
            order = tuple(source.sample(range(len(rule)), len(rule)))
            for mirrors in (1, 2, 3):
                renamed = tuple(tuple(sorted(order[mark] for mark in gone)) for gone in rounds(rule, mirrors))
                self.assertEqual(rounds(called(rule, order), mirrors), renamed)

    def test_more_mirrors_than_three(self):
        for values, mirrors in itertools.product((1, 2, 3), (4, 5, 20)):
            self.assertIs(serves(named_rule(values), mirrors), False)
        self.assertEqual(rounds(named_rule(4), 4), (tuple(range(16)),))

    def test_arguments(self):
        rule = ((1,), (2,), (0, 1, 2))
        for function, result in ((rounds, ((0, 1), (2,))), (core, ()), (serves, False)):
            self.assertEqual(calls_by_name(function, {"rule": rule, "mirrors": 1}), [result] * 2)
            self.assertTrue(unchanged_by(function, rule, 1))
        self.assertEqual(calls_by_name(appends_left, {"rule": rule, "mirrors": 1, "mark": 2}), [1] * 6)
        self.assertTrue(unchanged_by(appends_left, rule, 1, 2))


class Choice(unittest.TestCase):
    def expected(self, rule, mirrors, mark, lying):
        left = [other for other in reference.core(rule, mirrors) if reference.fits(rule, mark, lying, other)]
        return min(left, default=None)

    def samples(self, mirrors):
        source = random.Random(72 + mirrors)
        rules = [named_rule(mirrors + 1), named_rule(mirrors)]
        for marks in range((mirrors + 1) ** 2, 17, 3):
            rules.extend(enlarged(source, named_rule(mirrors + 1), marks) for _ in range(3))
            rules.extend(some_rules(source, marks, 2))
        return rules

    def test_marks_of_the_core_with_all_lying_marks(self):
        for mirrors in (1, 2):
            for rule in self.samples(mirrors):
                for mark in core(rule, mirrors):
                    for lying in reference.all_lying(len(rule), mirrors):
                        found = choice(rule, mirrors, mark, lying)
                        self.assertTrue(same(found, self.expected(rule, mirrors, mark, lying)))
                        self.assertIsNotNone(found)

    def test_three_mirrors(self):
        source = random.Random(73)
        for mark in range(16):
            for lying in source.sample(reference.all_lying(16, 3), 20):
                found = choice(named_rule(4), 3, mark, lying)
                self.assertTrue(same(found, self.expected(named_rule(4), 3, mark, lying)))
                self.assertIsNotNone(found)

    def test_marks_that_are_removed(self):
        source = random.Random(74)
        results = set()
        for mirrors in (1, 2):
            for rule in self.samples(mirrors):
                for mark in itertools.chain(*rounds(rule, mirrors)):
                    for _ in range(5):
                        lying = tuple(source.randrange(len(rule)) for _ in range(source.randrange(mirrors + 1)))
                        found = choice(rule, mirrors, mark, lying)
                        self.assertTrue(same(found, self.expected(rule, mirrors, mark, lying)))
                        results.add(found is None)
        self.assertEqual(results, {True, False})

    def test_more_lying_marks_than_mirrors(self):
        source = random.Random(75)
        results = set()
        for mirrors in (1, 2):
            for rule in self.samples(mirrors):
                for mark, count in itertools.product(range(len(rule)), range(mirrors + 1, 4)):
                    lying = tuple(source.randrange(len(rule)) for _ in range(count))
                    found = choice(rule, mirrors, mark, lying)
                    self.assertTrue(same(found, self.expected(rule, mirrors, mark, lying)))
                    results.add(found is None)
        self.assertEqual(results, {True, False})

    def test_lying_marks_that_the_rule_does_not_have(self):
        for lies in range(4, 16):
            self.assertEqual(choice(named_rule(2), 1, 0, (lies,)), 0)
            self.assertEqual(choice(named_rule(2), 1, 0, (lies, 15, 0)), 1)
            self.assertEqual(choice(named_rule(2), 1, 1, (3, lies)), 2)

    def test_marks_that_fit_but_are_not_in_the_core(self):
        # Nothing may follow mark 0, so behind mark 1 it always fits; but it is never chosen.
        rows = [tuple(other + 1 for other in row) for row in named_rule(3)]
        rule = ((), (0,) + rows[0], *rows[1:])
        self.assertEqual(core(rule, 1), tuple(range(1, 10)))
        for lying in reference.all_lying(10, 1):
            self.assertEqual(fitting(rule, 1, lying)[0], 0)
            self.assertTrue(same(choice(rule, 1, 1, lying), self.expected(rule, 1, 1, lying)))
            self.assertIn(choice(rule, 1, 1, lying), (1, 2, 3))
        self.assertIsNone(choice(rule, 1, 0, ()))

    def test_rules_that_fail(self):
        for rule in (((0,),), ((1,), (2,), (0, 1, 2)), all_followers(16), named_rule(2)):
            for mark in range(len(rule)):
                self.assertIsNone(choice(rule, 2, mark, ()))

    def test_arguments(self):
        arguments = {"rule": named_rule(2), "mirrors": 1, "mark": 1, "lying": (3,)}
        self.assertEqual(calls_by_name(choice, arguments), [2] * 24)
        self.assertTrue(unchanged_by(choice, named_rule(2), 1, 1, (3,)))


if __name__ == "__main__":
    unittest.main()
