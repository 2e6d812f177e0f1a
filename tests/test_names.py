"""Point 5: names, and point 3 (d) as far as it speaks of names and of the fewest marks."""

import itertools
import random
import unittest

import reference
from nextmarks.names import fewest_marks, named_rule, names_of, shows_names
from nextmarks.rules import called, cut_down, is_rule
from samples import OTHER_KINDS, all_rules, calls_by_name, nested, nested_lists, nested_tuples, some_rules, unchanged_by


def all_pairs(values):
    return tuple(itertools.product(range(values), repeat=2))


def rule_with(names):
    """Return the rule that has these names, by the words of point 5."""
    return tuple(
        tuple(b for b in range(len(names)) if names[b][0] == names[a][1]) for a in range(len(names)))


def orders(values, count):
    """Return so many orders of the marks of a named rule."""
    source = random.Random(values)
    marks = values * values
    return [tuple(source.sample(range(marks), marks)) for _ in range(count)]


class NamedRule(unittest.TestCase):
    def test_one_to_four_values(self):
        for values in (1, 2, 3, 4):
            rule = named_rule(values)
            self.assertTrue(is_rule(rule))
            self.assertEqual(len(rule), values * values)
            for a, b in itertools.product(range(len(rule)), repeat=2):
                self.assertEqual(b in rule[a], b // values == a % values)

    def test_written_out(self):
        self.assertEqual(named_rule(1), ((0,),))
        self.assertEqual(named_rule(3), ((0, 1, 2), (3, 4, 5), (6, 7, 8)) * 3)

    def test_somewhat_beyond_four_values(self):
        self.assertEqual(len(named_rule(5)), 25)

    def test_arguments(self):
        self.assertEqual(calls_by_name(named_rule, {"values": 1}), [((0,),)])


class ShowsNames(unittest.TestCase):
    def assert_names(self, rule, value):
        self.assertIs(shows_names(rule, value), True, value)

    def assert_no_names(self, rule, value):
        self.assertIs(shows_names(rule, value), False, value)

    def test_right_names(self):
        for values in (1, 2, 3, 4):
            self.assert_names(named_rule(values), all_pairs(values))

    def test_values_called_otherwise(self):
        for values in (1, 2, 3, 4):
            for order in itertools.permutations(range(values)):
                names = tuple((order[own], order[named]) for own, named in all_pairs(values))
                self.assert_names(named_rule(values), names)

    def test_only_one_side_called_otherwise(self):
        self.assert_no_names(named_rule(2), tuple((own, 1 - named) for own, named in all_pairs(2)))
        self.assert_no_names(named_rule(2), tuple((1 - own, named) for own, named in all_pairs(2)))

    def test_own_and_named_exchanged(self):
        for values in (2, 3, 4):
            self.assert_no_names(named_rule(values), tuple((named, own) for own, named in all_pairs(values)))

    def test_all_orders_of_four_pairs(self):
        rules = [rule_with(names) for names in itertools.permutations(all_pairs(2))]
        for rule in rules:
            for names in itertools.permutations(all_pairs(2)):
                self.assertIs(shows_names(rule, names), rule_with(names) == rule)

    def test_names_of_another_rule(self):
        for values in (2, 3, 4):
            for order in orders(values, 5):
                names = tuple(all_pairs(values)[mark] for mark in order)
                self.assert_names(rule_with(names), names)
                self.assertIs(shows_names(named_rule(values), names), rule_with(names) == named_rule(values))
        self.assert_no_names(((0, 1), (0, 1), (0, 1), (0, 1)), all_pairs(2))
        self.assert_no_names(((),) * 4, all_pairs(2))
        self.assert_no_names(((0, 1, 2, 3),) * 4, all_pairs(2))

    def test_one_follower_more_or_less(self):
        for values in (1, 2, 3, 4):
            rule = named_rule(values)
            for a, b in itertools.product(range(len(rule)), repeat=2):
                row = tuple(sorted(set(rule[a]) ^ {b}))
                self.assert_no_names(rule[:a] + (row,) + rule[a + 1:], all_pairs(values))

    def test_pairs_that_are_there_twice(self):
        # These pairs would say just what may follow, but for being there twice.
        self.assert_no_names(((0, 1, 2, 3),) * 4, ((0, 0),) * 4)
        self.assert_no_names(rule_with(((0, 1), (0, 1), (1, 0), (1, 0))), ((0, 1), (0, 1), (1, 0), (1, 0)))
        self.assert_no_names(rule_with(((0, 0), (0, 0), (1, 0), (1, 1))), ((0, 0), (0, 0), (1, 0), (1, 1)))

    def test_all_tuples_of_four_pairs(self):
        for names in itertools.product(all_pairs(2), repeat=4):
            self.assertIs(shows_names(rule_with(names), names), len(set(names)) == 4)

    def test_too_few_or_too_many_pairs(self):
        for values in (1, 2, 3):
            rule, names = named_rule(values), all_pairs(values)
            for size in range(len(names)):
                self.assert_no_names(rule, names[:size])
            self.assert_no_names(rule, names + names[:1])
            self.assert_no_names(rule, names + ((values, values),))
            self.assert_no_names(rule, names + names)

    def test_bools_are_no_integers(self):
        self.assert_no_names(named_rule(1), ((False, False),))
        for at in range(4):
            own, named = all_pairs(2)[at]
            for pair in ((bool(own), named), (own, bool(named)), (bool(own), bool(named))):
                self.assert_no_names(named_rule(2), all_pairs(2)[:at] + (pair,) + all_pairs(2)[at + 1:])

    def test_lists_are_no_tuples(self):
        names = all_pairs(2)
        self.assert_no_names(named_rule(2), list(names))
        self.assert_no_names(named_rule(2), [list(pair) for pair in names])
        for at in range(4):
            self.assert_no_names(named_rule(2), names[:at] + (list(names[at]),) + names[at + 1:])

    def test_values_out_of_range(self):
        # Each of these would say just what may follow.
        for low, high in ((0, 2), (1, 2), (-1, 0), (-2, -1), (1, 10 ** 30)):
            names = tuple(((low, high)[own], (low, high)[named]) for own, named in all_pairs(2))
            self.assertEqual(rule_with(names), named_rule(2))
            self.assert_no_names(named_rule(2), names)
        self.assert_no_names(named_rule(1), ((1, 1),))
        self.assert_no_names(named_rule(1), ((-1, -1),))
        self.assert_no_names(((),), ((0, 1),))

    def test_pairs_of_another_length(self):
        names = all_pairs(2)
        for at in range(4):
            for pair in ((), names[at][:1], names[at] + (0,)):
                self.assert_no_names(named_rule(2), names[:at] + (pair,) + names[at + 1:])

    def test_values_of_other_kinds(self):
        names = all_pairs(2)
        for value in OTHER_KINDS:
            self.assert_no_names(named_rule(1), value)
            self.assert_no_names(named_rule(2), value)
            self.assert_no_names(named_rule(2), (value,) * 4)
            self.assert_no_names(named_rule(2), names + (value,))
            for at in range(4):
                if value != names[at]:
                    self.assert_no_names(named_rule(2), names[:at] + (value,) + names[at + 1:])
        for deep in (nested(57), nested_tuples(57), nested_lists(57), None, "0", {}, []):
            for pair in ((deep, 0), (0, deep), (deep, deep)):
                self.assert_no_names(named_rule(2), (pair,) + names[1:])
                self.assert_no_names(named_rule(1), (pair,))

    def test_number_of_marks_that_is_no_square(self):
        for marks in (2, 3, 5, 6, 7, 8, 10, 12, 15):
            for names in (all_pairs(4)[:marks], all_pairs(marks)[:marks], (), None):
                self.assert_no_names(((),) * marks, names)
                if names:
                    self.assert_no_names(rule_with(names), names)

    def test_arguments(self):
        rule, names = named_rule(2), all_pairs(2)
        self.assertEqual(calls_by_name(shows_names, {"rule": rule, "value": names}), [True] * 2)
        for value in (names, *OTHER_KINDS, [[0, 0]], ([0, 0], {"a": [1]})):
            self.assertTrue(unchanged_by(shows_names, rule, value))


class NamesOf(unittest.TestCase):
    def test_named_rules(self):
        for values in (1, 2, 3, 4):
            self.assertIs(shows_names(named_rule(values), names_of(named_rule(values))), True)

    def test_marks_called_otherwise(self):
        for values in (1, 2, 3, 4):
            for order in orders(values, 30):
                rule = called(named_rule(values), order)
                self.assertIs(shows_names(rule, names_of(rule)), True)

    def test_none_exactly_if_there_are_no_names(self):
        with_names = {rule_with(names) for names in itertools.permutations(all_pairs(2))}
        for rule in all_rules(4):
            names = names_of(rule)
            if rule in with_names:
                self.assertEqual(rule_with(names), rule)
                self.assertEqual(sorted(names), list(all_pairs(2)))
            else:
                self.assertIsNone(names)

    def test_number_of_marks_that_is_no_square(self):
        for marks in (2, 3):
            for rule in all_rules(marks):
                self.assertIsNone(names_of(rule))
        source = random.Random(5)
        for marks in (5, 6, 7, 8, 10, 11, 12, 13, 14, 15):
            for rule in some_rules(source, marks, 10):
                self.assertIsNone(names_of(rule))
            self.assertIsNone(names_of(rule_with(all_pairs(4)[:marks])))

    def test_rules_of_one_mark(self):
        self.assertEqual(names_of(((0,),)), ((0, 0),))
        self.assertIsNone(names_of(((),)))

    def test_almost_named_rules(self):
        for values in (2, 3, 4):
            for order in orders(values, 3):
                rule = called(named_rule(values), order)
                for a, b in itertools.product(range(len(rule)), repeat=2):
                    # Another number of followers than values ** 3 is that of no rule with names.
                    row = tuple(sorted(set(rule[a]) ^ {b}))
                    self.assertIsNone(names_of(rule[:a] + (row,) + rule[a + 1:]))

    def test_right_groups_with_pairs_that_are_there_twice(self):
        for values in (2, 3, 4):
            names = tuple((own, own) for own, named in all_pairs(values))
            self.assertIsNone(names_of(rule_with(names)))

    def test_result_is_a_tuple_of_pairs(self):
        self.assertIsInstance(names_of(named_rule(2)), tuple)
        self.assertEqual(names_of(named_rule(2)), names_of(named_rule(2)))

    def test_arguments(self):
        self.assertEqual(calls_by_name(names_of, {"rule": ((0,),)}), [((0, 0),)])
        self.assertTrue(unchanged_by(names_of, named_rule(2)))


class FewestMarks(unittest.TestCase):
    def test_one_to_three_mirrors(self):
        self.assertEqual([fewest_marks(mirrors) for mirrors in (1, 2, 3)], [4, 9, 16])

    def test_arguments(self):
        self.assertEqual(calls_by_name(fewest_marks, {"mirrors": 2}), [9])


class FewestMarksServe(unittest.TestCase):
    """Point 3 (d), against the game as point 6 describes it."""

    def test_named_marks_with_one_value_more_than_mirrors_serve(self):
        for mirrors in (1, 2, 3):
            rule = named_rule(mirrors + 1)
            self.assertEqual(len(rule), fewest_marks(mirrors))
            self.assertEqual(reference.core(rule, mirrors), tuple(range(len(rule))))

    def test_named_marks_with_as_many_values_as_mirrors_do_not_serve(self):
        for mirrors in (1, 2, 3):
            self.assertFalse(reference.serves(named_rule(mirrors), mirrors))

    def test_no_rule_with_fewer_marks_serves_one_mirror(self):
        for marks in range(1, fewest_marks(1)):
            for rule in all_rules(marks):
                self.assertFalse(reference.serves(rule, 1))

    def test_some_rules_with_fewer_marks_do_not_serve(self):
        source = random.Random(6)
        for mirrors in (2, 3):
            for marks in range(1, fewest_marks(mirrors)):
                for rule in some_rules(source, marks, 5):
                    self.assertFalse(reference.serves(rule, mirrors))

    def test_named_marks_without_one_mark_do_not_serve(self):
        for mirrors in (1, 2, 3):
            rule = named_rule(mirrors + 1)
            for mark in range(len(rule)):
                others = tuple(other for other in range(len(rule)) if other != mark)
                self.assertFalse(reference.serves(cut_down(rule, others), mirrors))

    def test_a_rule_with_four_marks_serves_one_mirror_if_and_only_if_it_has_names(self):
        for rule in all_rules(4):
            self.assertEqual(reference.serves(rule, 1), names_of(rule) is not None, rule)


if __name__ == "__main__":
    unittest.main()
