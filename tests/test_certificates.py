"""Point 7: certificates."""

import itertools
import random
import unittest

import reference
from nextmarks.certificates import certificate, shows_certificate
from nextmarks.games import core, serves
from nextmarks.names import named_rule
from samples import (
    OTHER_KINDS, all_rules, calls_by_name, enlarged, nested, nested_lists, nested_tuples, same, shapes, some_rules,
    toggled, unchanged_by)


def ascending_sets(marks, most):
    """Return all ascending tuples of at most so many marks."""
    return [found for count in range(most + 1) for found in itertools.combinations(range(marks), count)]


def all_rows(marks, most):
    """Return all tuples of rows with each mark once, with at most so many lying marks."""
    for order in itertools.permutations(range(marks)):
        for lying in itertools.product(ascending_sets(marks, most), repeat=marks):
            yield tuple(zip(order, lying))


def sample_rules():
    source = random.Random(80)
    rules = [rule for marks in (1, 2, 3) for rule in all_rules(marks)]
    rules.extend(itertools.islice(all_rules(4), 0, None, 131))
    for marks in range(1, 17):
        rules.extend(shapes(marks))
        rules.extend(some_rules(source, marks, 8))
    for values in (1, 2, 3, 4):
        rule = named_rule(values)
        rules.append(rule)
        rules.extend(toggled(rule, mark, 0) for mark in range(len(rule)))
        rules.extend(enlarged(source, rule, marks) for marks in range(values * values, 17))
    return rules


class Certificate(unittest.TestCase):
    def test_rules_that_serve_and_rules_that_fail(self):
        words = {(mirrors, word): 0 for mirrors in (1, 2, 3) for word in ("serves", "fails")}
        for rule, mirrors in itertools.product(sample_rules(), (1, 2, 3)):
            found = certificate(rule, mirrors)
            words[mirrors, found[0]] += 1
            if reference.serves(rule, mirrors):
                self.assertTrue(same(found, ("serves", reference.core(rule, mirrors))))
                self.assertTrue(reference.is_serving(rule, mirrors, found[1]))
            else:
                self.check_fails(rule, mirrors, found)
            self.assertIs(shows_certificate(rule, mirrors, found), True)
        # There are rules of both kinds for each number of mirrors.
        self.assertGreater(min(words.values()), 1)

    def check_fails(self, rule, mirrors, found):
        word, rows = found
        self.assertEqual((word, type(found), type(rows)), ("fails", tuple, tuple))
        for row in rows:
            self.assertIsInstance(row, tuple)
            self.assertIs(type(row[0]), int)
            self.assertTrue(same(row[1], tuple(sorted(set(row[1])))))
            self.assertTrue(set(row[1]) <= set(range(len(rule))))
        self.assertTrue(reference.is_failing(rule, mirrors, rows), (rule, mirrors, rows))

    def test_arguments(self):
        everything = ("serves", (0, 1, 2, 3))
        self.assertEqual(calls_by_name(certificate, {"rule": named_rule(2), "mirrors": 1}), [everything] * 2)
        self.assertTrue(unchanged_by(certificate, named_rule(2), 1))


class ShowsCertificate(unittest.TestCase):
    def assert_shows(self, rule, mirrors, value):
        self.assertIs(shows_certificate(rule, mirrors, value), True, (rule, mirrors, value))

    def assert_shows_not(self, rule, mirrors, value):
        self.assertIs(shows_certificate(rule, mirrors, value), False, (rule, mirrors, value))

    def failing(self):
        """Return some rules that fail, with mirrors and a certificate."""
        source = random.Random(81)
        rules = [((),), ((0,),), ((1,), (2,), (0, 1, 2)), named_rule(3)]
        for marks in (2, 3, 5, 9, 16):
            rules.extend(some_rules(source, marks, 4))
        cases = []
        for rule, mirrors in itertools.product(rules, (1, 2, 3)):
            if not serves(rule, mirrors):
                cases.append((rule, mirrors, certificate(rule, mirrors)[1]))
        return cases

    def test_all_sets_of_marks_of_small_rules(self):
        for marks in (1, 2, 3):
            for rule, mirrors in itertools.product(all_rules(marks), (1, 2, 3)):
                for found in ascending_sets(marks, marks):
                    self.assert_shows_not(rule, mirrors, ("serves", found))

    def test_all_sets_of_marks(self):
        source = random.Random(82)
        for rule, mirrors in ((named_rule(2), 1), (enlarged(source, named_rule(2), 8), 1), (named_rule(3), 1),
                              (named_rule(3), 2)):
            shown = 0
            for found in ascending_sets(len(rule), len(rule)):
                right = reference.is_serving(rule, mirrors, found)
                self.assertIs(shows_certificate(rule, mirrors, ("serves", found)), right, found)
                shown += right
            self.assertGreater(shown, 0)

    def test_sets_of_marks_that_are_not_the_core(self):
        # For one mirror, two of the three values are enough: any certificate counts, not only the greatest one.
        part = tuple(own * 3 + named for own in (0, 2) for named in (0, 2))
        self.assertEqual(core(named_rule(3), 1), tuple(range(9)))
        self.assert_shows(named_rule(3), 1, ("serves", part))
        self.assert_shows_not(named_rule(3), 2, ("serves", part))
        for at in range(4):
            self.assert_shows_not(named_rule(3), 1, ("serves", part[:at] + part[at + 1:]))

    def test_sixteen_marks_and_three_mirrors(self):
        everything = tuple(range(16))
        self.assert_shows(named_rule(4), 3, ("serves", everything))
        for mark in everything:
            others = tuple(other for other in everything if other != mark)
            self.assert_shows_not(named_rule(4), 3, ("serves", others))
            self.assertIs(shows_certificate(named_rule(4), 2, ("serves", others)),
                          reference.is_serving(named_rule(4), 2, others))
            self.assert_shows_not(toggled(named_rule(4), mark, 0), 3, ("serves", everything))

    def test_wrong_tuples_of_marks(self):
        rule = named_rule(2)
        for marks in ((), (0, 1, 2), (0, 1, 3, 2), (3, 2, 1, 0), (0, 0, 1, 2, 3), (0, 1, 2, 3, 3), (0, 1, 2, 3, 4),
                      (-1, 0, 1, 2, 3), (False, 1, 2, 3), (0, True, 2, 3), (0, 1, 2, None), (0, 1, 2, "3"),
                      ((0,), 1, 2, 3), (0, 1, 2, (3,)), ((0, 1, 2, 3),), [0, 1, 2, 3], {0: 1}, "0123", 0, None, True):
            self.assert_shows_not(rule, 1, ("serves", marks))

    def test_all_rows_of_small_rules(self):
        source = random.Random(83)
        rules = [rule for marks in (1, 2) for rule in all_rules(marks)] + some_rules(source, 3, 12)
        for rule, mirrors in itertools.product(rules, (1, 2, 3)):
            for rows in all_rows(len(rule), len(rule)):
                right = reference.is_failing(rule, mirrors, rows)
                self.assertIs(shows_certificate(rule, mirrors, ("fails", rows)), right, (rule, mirrors, rows))

    def test_rows_exchanged(self):
        results = set()
        for rule, mirrors, rows in self.failing():
            for one, other in itertools.combinations(range(len(rows)), 2):
                changed = list(rows)
                changed[one], changed[other] = rows[other], rows[one]
                right = reference.is_failing(rule, mirrors, changed)
                self.assertIs(shows_certificate(rule, mirrors, ("fails", tuple(changed))), right)
                results.add(right)
        self.assertEqual(results, {True, False})

    def test_rows_in_another_order(self):
        # Mark 0 fits behind mark 2 if 2 lies there, so only the sequence of these two rows matters.
        rule = ((1,), (2,), (0, 1, 2))
        for rows in itertools.permutations(((0, (2,)), (1, (0,)), (2, (2,)))):
            marks = [mark for mark, _ in rows]
            self.assertIs(shows_certificate(rule, 1, ("fails", rows)), marks.index(0) < marks.index(2))

    def test_marks_that_fit_behind_themselves(self):
        self.assert_shows(((0,),), 1, ("fails", ((0, (0,)),)))
        self.assert_shows_not(((0,),), 1, ("fails", ((0, ()),)))

    def test_lying_marks_left_out(self):
        results = set()
        for rule, mirrors, rows in self.failing():
            for at, (mark, lying) in enumerate(rows):
                for left_out in range(len(lying)):
                    less = (mark, lying[:left_out] + lying[left_out + 1:])
                    changed = rows[:at] + (less,) + rows[at + 1:]
                    right = reference.is_failing(rule, mirrors, changed)
                    self.assertIs(shows_certificate(rule, mirrors, ("fails", changed)), right)
                    results.add(right)
        self.assertIn(False, results)

    def test_too_many_lying_marks(self):
        for mirrors in (1, 2, 3):
            for count in range(17):
                value = ("fails", tuple((mark, tuple(range(count))) for mark in range(16)))
                self.assertIs(shows_certificate(((),) * 16, mirrors, value), count <= mirrors)

    def test_lying_marks_that_are_not_ascending_marks_of_the_rule(self):
        rule = ((), ())
        self.assert_shows(rule, 3, ("fails", ((0, (0, 1)), (1, ()))))
        for lying in ((1, 0), (0, 0), (1, 1), (0, 1, 1), (2,), (0, 2), (15,), (-1,), (-1, 0), (True,), (False,),
                      (False, 1), (0, True), (None,), ("0",), ((0,),), [], [0], {}, {0: 0}, "", "0", 0, 1, None, True):
            self.assert_shows_not(rule, 3, ("fails", ((0, lying), (1, ()))))
            self.assert_shows_not(rule, 3, ("fails", ((0, ()), (1, lying))))

    def test_marks_missing_or_there_twice(self):
        for rule, mirrors, rows in self.failing():
            for at in range(len(rows)):
                self.assert_shows_not(rule, mirrors, ("fails", rows[:at] + rows[at + 1:]))
                self.assert_shows_not(rule, mirrors, ("fails", rows + rows[at:at + 1]))
                self.assert_shows_not(rule, mirrors, ("fails", rows[:at] + rows[at:at + 1] + rows[at:]))
                if at:
                    self.assert_shows_not(rule, mirrors, ("fails", rows[:at] + rows[:1] + rows[at + 1:]))
            self.assert_shows_not(rule, mirrors, ("fails", rows + ((len(rule), ()),)))
            self.assert_shows_not(rule, mirrors, ("fails", ((-1, ()),) + rows))
            self.assert_shows_not(rule, mirrors, ("fails", ()))

    def test_bools_are_no_integers(self):
        self.assert_shows(((0,), ()), 1, ("fails", ((0, (0,)), (1, (1,)))))
        for rows in (((False, (0,)), (1, (1,))), ((0, (False,)), (1, (1,))), ((0, (0,)), (True, (1,))),
                     ((0, (0,)), (1, (True,)))):
            self.assert_shows_not(((0,), ()), 1, ("fails", rows))

    def test_lists_are_no_tuples(self):
        rule = ((0,), ())
        rows = ((0, (0,)), (1, (1,)))
        self.assert_shows(rule, 1, ("fails", rows))
        for value in (["fails", rows], ("fails", list(rows)), ("fails", ([0, (0,)], rows[1])),
                      ("fails", (rows[0], [1, (1,)])), ("fails", ((0, [0]), rows[1])), ("fails", (rows[0], (1, [1])))):
            self.assert_shows_not(rule, 1, value)
        self.assert_shows_not(named_rule(2), 1, ["serves", (0, 1, 2, 3)])

    def test_rows_of_another_length(self):
        for row in ((), (0,), (0, (), ()), (0, (), 0), ((0, ()),)):
            self.assert_shows_not(((),), 1, ("fails", (row,)))
            self.assert_shows_not(((), ()), 1, ("fails", ((0, ()), row)))

    def test_other_strings(self):
        serving, failing = (0, 1, 2, 3), ((0, ()),)
        for word in ("", "Serves", "SERVES", "serve", "serves ", " serves", "fail", "fails\n", "Fails", "failsserves"):
            self.assert_shows_not(named_rule(2), 1, (word, serving))
            self.assert_shows_not(((),), 1, (word, failing))
        self.assert_shows_not(named_rule(2), 1, ("fails", serving))
        self.assert_shows_not(((),), 1, ("serves", failing))

    def test_values_of_another_length(self):
        for value in ((), ("serves",), ("fails",), ((0, 1, 2, 3),), ("serves", (0, 1, 2, 3), ()),
                      ("serves", (0, 1, 2, 3), None), ("serves", "serves", (0, 1, 2, 3)), "serves", "fails", "sf"):
            self.assert_shows_not(named_rule(2), 1, value)
        self.assert_shows_not(((),), 1, ("fails", ((0, ()),), ()))

    def test_values_of_other_kinds(self):
        kinds = (*OTHER_KINDS, nested(57), nested_tuples(57), nested_lists(57))
        for value in kinds:
            for rule in (((),), ((0,),), named_rule(2)):
                for wrong in (value, (value,), (value, value), (value, (0,)), (value, ((0, ()),)), ("fails", value),
                              ("serves", value), ("fails", (value,)), ("serves", (value,)), ("serves", value, value)):
                    self.assert_shows_not(rule, 1, wrong)
        for value in kinds:
            # These two are right where they stand.
            if not same(value, 0):
                self.assert_shows_not(((),), 1, ("fails", ((value, ()),)))
                self.assert_shows_not(((),), 1, ("fails", ((0, (value,)),)))
                self.assert_shows_not(named_rule(2), 1, ("serves", (value, 1, 2, 3)))
            if not same(value, (0,)):
                self.assert_shows_not(((),), 1, ("fails", ((0, value),)))

    def test_either_the_one_or_the_other(self):
        for marks in (1, 2):
            for rule, mirrors in itertools.product(all_rules(marks), (1, 2, 3)):
                self.check_never_both(rule, mirrors)
        for rule in some_rules(random.Random(84), 3, 20):
            for mirrors in (1, 2):
                self.check_never_both(rule, mirrors)
        self.check_never_both(named_rule(2), 1)
        self.check_never_both(toggled(named_rule(2), 1, 1), 1)

    def check_never_both(self, rule, mirrors):
        serving = any(shows_certificate(rule, mirrors, ("serves", marks))
                      for marks in ascending_sets(len(rule), len(rule)))
        failing = any(shows_certificate(rule, mirrors, ("fails", rows)) for rows in all_rows(len(rule), mirrors))
        self.assertEqual((serving, failing), (serves(rule, mirrors), not serves(rule, mirrors)))

    def test_arguments(self):
        value = ("serves", (0, 1, 2, 3))
        arguments = {"rule": named_rule(2), "mirrors": 1, "value": value}
        self.assertEqual(calls_by_name(shows_certificate, arguments), [True] * 6)
        for value in (value, *OTHER_KINDS, ["fails", [[0, [0]]]], ("fails", [[0, [0]]]), ("serves", [3, 2])):
            self.assertTrue(unchanged_by(shows_certificate, named_rule(2), 1, value))


if __name__ == "__main__":
    unittest.main()
