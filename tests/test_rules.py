"""Point 4: rules."""

import itertools
import random
import unittest

from nextmarks.names import named_rule
from nextmarks.rules import called, cut_down, is_rule, may_follow
from samples import OTHER_KINDS, all_rules, calls_by_name, same, some_rules, unchanged_by


def sample_rules():
    source = random.Random(4)
    rules = [rule for marks in (1, 2) for rule in all_rules(marks)]
    for marks in (3, 4, 7, 15, 16):
        rules.extend(some_rules(source, marks, 6))
        rules.append(((),) * marks)
        rules.append((tuple(range(marks)),) * marks)
    return rules


class IsRule(unittest.TestCase):
    def assert_rule(self, value):
        self.assertIs(is_rule(value), True, value)

    def assert_no_rule(self, value):
        self.assertIs(is_rule(value), False, value)

    def test_number_of_marks(self):
        self.assert_no_rule(())
        for marks in range(1, 17):
            self.assert_rule(((),) * marks)
            self.assert_rule((tuple(range(marks)),) * marks)
        self.assert_no_rule(((),) * 17)
        self.assert_no_rule((tuple(range(16)),) * 17)
        self.assert_no_rule(((),) * 40)

    def test_all_small_rules(self):
        for marks in (1, 2, 3):
            for rule in all_rules(marks):
                self.assert_rule(rule)

    def test_followers_at_and_beyond_the_number_of_marks(self):
        for marks in range(1, 17):
            for follower in range(marks):
                self.assert_rule(((),) * (marks - 1) + ((follower,),))
            for follower in range(marks, 19):
                self.assert_no_rule(((),) * (marks - 1) + ((follower,),))
                self.assert_no_rule(((follower,),) + ((),) * (marks - 1))

    def test_followers_15_and_16(self):
        self.assert_rule(((0, 15),) * 16)
        self.assert_no_rule(((0, 16),) * 16)
        self.assert_no_rule(((16,),) * 17)
        self.assert_no_rule(((0, 15),) * 15)

    def test_negative_followers(self):
        for follower in (-1, -2, -16, -10 ** 30):
            self.assert_no_rule(((follower,), ()))
            self.assert_no_rule(((follower, 0), (0, 1)))

    def test_bools_are_no_integers(self):
        self.assert_rule(((0, 1), (1,)))
        for wrong in (((False, 1), (1,)), ((0, True), (1,)), ((0, 1), (True,)), ((False,), ()), (False, True)):
            self.assert_no_rule(wrong)
        self.assert_no_rule(((False,),))

    def test_lists_are_no_tuples(self):
        for wrong in ([(0, 1), (0,)], ([0, 1], (0,)), ((0, 1), [0]), [[0, 1], [0]], ([],), [()], ((), [])):
            self.assert_no_rule(wrong)

    def test_followers_out_of_order_or_twice(self):
        for row in itertools.product(range(3), repeat=3):
            expected = row == (0, 1, 2)
            self.assertIs(is_rule((row, (), ())), expected)
            self.assertIs(is_rule(((), (), row)), expected)
        for row in itertools.product(range(3), repeat=2):
            self.assertIs(is_rule(((), row, ())), row[0] < row[1])
        self.assert_no_rule(((0, 1, 2, 2), (), ()))

    def test_values_of_other_kinds(self):
        for value in OTHER_KINDS:
            self.assert_no_rule(value)
            self.assert_no_rule((value, (value,)))
            if not same(value, (0,)) and not same(value, (0, 1)):
                self.assert_no_rule(((0, 1), (0,), value))
            if not same(value, 0) and not same(value, 1):
                self.assert_no_rule(((value,), ()))
                self.assert_no_rule(((0, value), (0,)))
                self.assert_no_rule(((value, 1), (0,)))

    def test_argument(self):
        self.assertEqual(calls_by_name(is_rule, {"value": ((0,),)}), [True])
        for value in (*OTHER_KINDS, [[0, 1], [0]], ([1, 0], {})):
            self.assertTrue(unchanged_by(is_rule, value))


class MayFollow(unittest.TestCase):
    def test_marks_up_to_15_on_either_side(self):
        for rule in sample_rules():
            for mark, other in itertools.product(range(16), repeat=2):
                expected = mark < len(rule) and other in rule[mark]
                self.assertIs(may_follow(rule, mark, other), expected)

    def test_direction(self):
        self.assertIs(may_follow(((1,), ()), 0, 1), True)
        self.assertIs(may_follow(((1,), ()), 1, 0), False)

    def test_marks_that_the_rule_does_not_have(self):
        full = ((0, 1), (0, 1))
        for mark in range(2, 16):
            for other in range(16):
                self.assertIs(may_follow(full, mark, other), False)
                self.assertIs(may_follow(full, other, mark), False)

    def test_somewhat_beyond_the_marks(self):
        full = (tuple(range(16)),) * 16
        for beyond in (-17, -16, -1, 16, 17, 99):
            for other in (-1, 0, 15, 16):
                self.assertIs(may_follow(full, beyond, other), False)
                self.assertIs(may_follow(full, other, beyond), False)

    def test_arguments(self):
        rule = ((1,), ())
        self.assertEqual(calls_by_name(may_follow, {"rule": rule, "mark": 0, "other": 1}), [True] * 6)
        self.assertTrue(unchanged_by(may_follow, rule, 0, 1))


class Called(unittest.TestCase):
    def check(self, rule, order):
        result = called(rule, order)
        self.assertTrue(is_rule(result))
        self.assertEqual(len(result), len(rule))
        for mark, other in itertools.product(range(len(rule)), repeat=2):
            self.assertEqual(other in rule[mark], order[other] in result[order[mark]])

    def test_all_orders_of_few_marks(self):
        source = random.Random(41)
        for marks in (1, 2, 3, 4):
            for rule in some_rules(source, marks, 5):
                for order in itertools.permutations(range(marks)):
                    self.check(rule, order)

    def test_some_orders_of_many_marks(self):
        source = random.Random(42)
        for rule in sample_rules():
            for _ in range(4):
                self.check(rule, tuple(source.sample(range(len(rule)), len(rule))))

    def test_direction(self):
        # With three marks, an order and the order that takes it back are different.
        self.assertEqual(called(((1,), (), ()), (1, 2, 0)), ((), (2,), ()))

    def test_same_order_keeps_the_rule(self):
        for rule in sample_rules():
            self.assertEqual(called(rule, tuple(range(len(rule)))), rule)

    def test_arguments(self):
        rule, order = ((1,), (), ()), (1, 2, 0)
        self.assertEqual(calls_by_name(called, {"rule": rule, "order": order}), [((), (2,), ())] * 2)
        self.assertTrue(unchanged_by(called, rule, order))


class CutDown(unittest.TestCase):
    def check(self, rule, marks):
        result = cut_down(rule, marks)
        self.assertTrue(is_rule(result))
        self.assertEqual(len(result), len(rule))
        for mark, other in itertools.product(range(len(rule)), repeat=2):
            expected = other in rule[mark] and mark in marks and other in marks
            self.assertEqual(other in result[mark], expected)

    def test_all_choices_of_few_marks(self):
        source = random.Random(43)
        for count in (1, 2, 3, 4):
            for rule in some_rules(source, count, 5):
                for size in range(count + 1):
                    for marks in itertools.combinations(range(count), size):
                        self.check(rule, marks)

    def test_some_choices_of_many_marks(self):
        source = random.Random(44)
        for rule in sample_rules():
            for size in range(len(rule) + 1):
                self.check(rule, tuple(sorted(source.sample(range(len(rule)), size))))

    def test_no_marks_and_all_marks(self):
        for rule in sample_rules():
            self.assertEqual(cut_down(rule, ()), ((),) * len(rule))
            self.assertEqual(cut_down(rule, tuple(range(len(rule)))), rule)

    def test_both_sides_are_cut(self):
        self.assertEqual(cut_down(named_rule(2), (0, 1, 3)), ((0, 1), (3,), (), (3,)))

    def test_arguments(self):
        rule, marks = ((0, 1), (0, 1)), (1,)
        self.assertEqual(calls_by_name(cut_down, {"rule": rule, "marks": marks}), [((), (1,))] * 2)
        self.assertTrue(unchanged_by(cut_down, rule, marks))


if __name__ == "__main__":
    unittest.main()
