"""Point 8: attackers, and point 3 (b) as far as it speaks of them."""

import copy
import itertools
import random
import unittest

import reference
from nextmarks.attackers import Attacker
from nextmarks.errors import BadMark, MarkError, Unstoppable
from nextmarks.games import appends_left, core, fitting, rounds
from nextmarks.names import named_rule
from samples import OTHER_KINDS, all_rules, calls_by_name, enlarged, nested, same, shapes, some_rules, toggled


def removed_marks(rule, mirrors):
    return sorted(itertools.chain(*rounds(rule, mirrors)))


def long_rules(count):
    """Return rules of sixteen marks from which one mirror removes marks in at least so many rounds."""
    return [rule for rule in some_rules(random.Random(90), 16, 300) if len(rounds(rule, 1)) >= count]


class Attackers(unittest.TestCase):
    def state(self, attacker):
        return (attacker.mark(), attacker.lying(), attacker.is_stopped())

    def check_step(self, rule, mirrors, mark, attacker):
        """Check what the attacker says behind the mark, and return the marks that fit."""
        lying = attacker.lying()
        self.assertTrue(same(attacker.mark(), mark))
        self.assertTrue(same(lying, tuple(sorted(set(lying)))))
        self.assertTrue(set(lying) <= set(range(len(rule))))
        self.assertLessEqual(len(lying), mirrors)
        after = reference.fitting(rule, mark, lying)
        for other in after:
            self.assertLess(self.round_of(rule, mirrors, other), self.round_of(rule, mirrors, mark))
        self.assertIs(attacker.is_stopped(), after == ())
        self.assertTrue(same(self.state(attacker), self.state(attacker)))
        return after

    def round_of(self, rule, mirrors, mark):
        return [mark in gone for gone in reference.rounds(rule, mirrors)].index(True)

    def check_every_way(self, rule, mirrors, first):
        """Check every way of writing behind the first mark, and return the length of the longest one."""
        waiting = [()]
        longest = 0
        while waiting:
            written = waiting.pop()
            attacker = Attacker(rule, mirrors, first)
            for mark in written:
                self.assertIsNone(attacker.wrote(mark))
            longest = max(longest, len(written))
            after = self.check_step(rule, mirrors, (first, *written)[-1], attacker)
            self.check_refused(rule, attacker, after)
            waiting.extend(written + (mark,) for mark in after)
        return longest

    def check_refused(self, rule, attacker, after):
        before = self.state(attacker)
        for mark in (*range(-1, len(rule) + 2), 15, 16):
            if mark not in after:
                self.assert_bad_mark(attacker, mark)
        self.assertTrue(same(self.state(attacker), before))

    def assert_bad_mark(self, attacker, value):
        with self.assertRaises(BadMark) as caught:
            attacker.wrote(value)
        self.assertIs(caught.exception.value, value)

    def test_every_way_of_writing_for_all_rules_of_up_to_three_marks(self):
        for marks in (1, 2, 3):
            for rule, mirrors in itertools.product(all_rules(marks), (1, 2, 3)):
                for mark in removed_marks(rule, mirrors):
                    longest = self.check_every_way(rule, mirrors, mark)
                    self.assertLessEqual(longest, appends_left(rule, mirrors, mark))

    def test_every_way_of_writing_for_larger_rules(self):
        source = random.Random(91)
        rules = list(itertools.islice(all_rules(4), 0, None, 97))
        for marks in (4, 5, 6, 9):
            rules.extend(shapes(marks))
            rules.extend(some_rules(source, marks, 10))
        rules.extend(enlarged(source, named_rule(2), marks) for marks in (4, 5, 6, 7, 8))
        for rule, mirrors in itertools.product(rules, (1, 2, 3)):
            for mark in removed_marks(rule, mirrors):
                longest = self.check_every_way(rule, mirrors, mark)
                self.assertLessEqual(longest, appends_left(rule, mirrors, mark))

    def test_writers_that_go_on_as_long_as_they_can(self):
        rules = long_rules(5)
        self.assertGreater(len(rules), 5)
        steps = set()
        for rule in rules:
            for mark in removed_marks(rule, 1):
                attacker = Attacker(rule, 1, mark)
                count = 0
                after = self.check_step(rule, 1, mark, attacker)
                while after:
                    best = max(after, key=lambda other: appends_left(rule, 1, other))
                    attacker.wrote(best)
                    count += 1
                    after = self.check_step(rule, 1, best, attacker)
                # The writer does not get fewer appends than the round of its mark promises, and not more.
                self.assertEqual(count, appends_left(rule, 1, mark))
                self.check_refused(rule, attacker, ())
                steps.add(count)
        self.assertEqual(steps & set(range(5)), set(range(5)))

    def test_sixteen_marks_and_up_to_three_mirrors(self):
        source = random.Random(92)
        rules = [toggled(named_rule(4), 3, 0), named_rule(3), *shapes(16), *some_rules(source, 16, 10)]
        rules.append(enlarged(source, named_rule(3), 16))
        for rule, mirrors in itertools.product(rules, (1, 2, 3)):
            for mark in removed_marks(rule, mirrors):
                attacker = Attacker(rule, mirrors, mark)
                count = 0
                after = self.check_step(rule, mirrors, mark, attacker)
                while after:
                    mark = source.choice(after)
                    attacker.wrote(mark)
                    count += 1
                    after = self.check_step(rule, mirrors, mark, attacker)
                self.assertLessEqual(count, len(reference.rounds(rule, mirrors)) - 1)

    def test_marks_of_the_core(self):
        source = random.Random(93)
        for mirrors in (1, 2, 3):
            rules = [named_rule(values) for values in range(mirrors + 1, 5)]
            rules.extend(enlarged(source, named_rule(mirrors + 1), marks) for marks in range(len(rules[0]), 17))
            for rule in rules:
                for mark in range(len(rule)):
                    if mark in reference.core(rule, mirrors):
                        with self.assertRaises(Unstoppable) as caught:
                            Attacker(rule, mirrors, mark)
                        self.assertTrue(same(caught.exception.value, mark))
                        self.assertIsInstance(caught.exception, MarkError)
                    else:
                        self.assertTrue(same(Attacker(rule, mirrors, mark).mark(), mark))

    def test_marks_that_are_stopped_at_once(self):
        for rule in (((),), ((0,),)):
            attacker = Attacker(rule, 1, 0)
            self.assertIs(attacker.is_stopped(), True)
            self.check_refused(rule, attacker, ())

    def test_marks_that_would_fit_if_less_lay_there(self):
        attacker = Attacker(((1,), (2,), (0, 1, 2)), 1, 0)
        self.assertEqual(fitting(((1,), (2,), (0, 1, 2)), 0, ()), (1,))
        self.assert_bad_mark(attacker, 1)
        self.assertEqual(attacker.mark(), 0)

    def open_rule(self):
        """Return a rule with which mark 1 fits behind mark 0, although the writer is stopped later: 1 equals True."""
        for rule in itertools.chain(all_rules(3), all_rules(4)):
            if 0 not in core(rule, 1) and 1 in fitting(rule, 0, Attacker(rule, 1, 0).lying()):
                return rule
        return None

    def test_values_of_any_kind(self):
        rule = self.open_rule()
        attacker = Attacker(rule, 1, 0)
        before = self.state(attacker)
        after = fitting(rule, 0, attacker.lying())
        refused = 0
        for value in (*OTHER_KINDS, nested(60), 1.0, True, False, None, "1", (1,), [1], {1: 1}, {"mark": 1}, -1, 16):
            if type(value) is int and value in after:
                continue
            kept = copy.deepcopy(value)
            self.assert_bad_mark(attacker, value)
            self.assertTrue(same(value, kept))
            self.assertTrue(same(self.state(attacker), before))
            refused += 1
        self.assertGreater(refused, 50)
        attacker.wrote(1)
        self.assertTrue(same(attacker.mark(), 1))

    def test_two_attackers_side_by_side(self):
        rule = long_rules(6)[0]
        first = rounds(rule, 1)[-1][0]
        one, other = Attacker(rule, 1, first), Attacker(rule, 1, first)
        third = Attacker(rule, 2, first)
        kept = self.state(other), self.state(third)
        self.assertFalse(one.is_stopped())
        while not one.is_stopped():
            one.wrote(fitting(rule, one.mark(), one.lying())[0])
            self.assertTrue(same((self.state(other), self.state(third)), kept))
        after = self.state(one)
        other.wrote(fitting(rule, first, other.lying())[-1])
        self.assertNotEqual(other.mark(), first)
        self.assertTrue(same(self.state(one), after))
        self.assertTrue(same(self.state(third), kept[1]))
        self.assertTrue(same(self.state(Attacker(rule, 1, first)), kept[0]))

    def test_methods_are_defined_in_the_class_itself(self):
        for name in ("__init__", "mark", "lying", "wrote", "is_stopped"):
            self.assertIn(name, vars(Attacker))

    def test_arguments(self):
        rule = ((0,),)
        for attacker in calls_by_name(Attacker, {"rule": rule, "mirrors": 1, "mark": 0}):
            self.assertEqual(self.state(attacker), (0, (0,), True))
            with self.assertRaises(BadMark):
                attacker.wrote(value=0)
        attacker = Attacker(self.open_rule(), 1, 0)
        self.assertIsNone(attacker.wrote(value=1))
        self.assertEqual(attacker.mark(), 1)
        self.assertEqual(rule, ((0,),))


if __name__ == "__main__":
    unittest.main()
