"""Point 3: the guarantees (b), (c) and (d), over the whole of points 4 to 9."""

import itertools
import random
import unittest

import reference
from nextmarks.attackers import Attacker
from nextmarks.certificates import certificate, shows_certificate
from nextmarks.devices import Device
from nextmarks.errors import Unstoppable
from nextmarks.games import appends_left, choice, core, fitting, rounds, serves
from nextmarks.names import fewest_marks, named_rule, names_of
from nextmarks.readers import records
from nextmarks.rules import called, cut_down, is_rule
from nextmarks.sight import blocking, ends, family, row_for, shows_sight
from samples import all_rules, enlarged, rules_up_to, some_rules, toggled


class Game(unittest.TestCase):
    """Guarantee (b)."""

    def test_a_rule_serves_if_and_only_if_its_core_is_not_empty(self):
        for rule, mirrors in itertools.product(rules_up_to(16, 140, 6), (1, 2, 3)):
            self.assertIs(serves(rule, mirrors), len(core(rule, mirrors)) > 0)
            self.assertEqual(certificate(rule, mirrors)[0], "serves" if serves(rule, mirrors) else "fails")
            self.assertIs(shows_certificate(rule, mirrors, certificate(rule, mirrors)), True)

    def test_how_often_a_writer_can_append(self):
        rules = [rule for marks in (1, 2, 3) for rule in all_rules(marks)]
        rules.extend(itertools.islice(all_rules(4), 0, None, 499))
        rules.extend(some_rules(random.Random(141), 5, 20))
        rules.append(named_rule(2))
        for rule, mirrors in itertools.product(rules, (1, 2)):
            for mark in range(len(rule)):
                count = appends_left(rule, mirrors, mark)
                if count is None:
                    self.assertTrue(reference.can_append(rule, mirrors, mark, len(rule)))
                else:
                    self.assertTrue(reference.can_append(rule, mirrors, mark, count))
                    self.assertFalse(reference.can_append(rule, mirrors, mark, count + 1))

    def test_an_attacker_stops_a_writer_no_later(self):
        for rule, mirrors in itertools.product(rules_up_to(16, 142, 6), (1, 2, 3)):
            for mark in range(len(rule)):
                count = appends_left(rule, mirrors, mark)
                if count is None:
                    self.assertRaises(Unstoppable, Attacker, rule, mirrors, mark)
                    continue
                attacker = Attacker(rule, mirrors, mark)
                written = 0
                while not attacker.is_stopped():
                    attacker.wrote(fitting(rule, attacker.mark(), attacker.lying())[0])
                    written += 1
                self.assertLessEqual(written, count)

    def test_a_writer_stays_in_the_core_whatever_lies_there(self):
        source = random.Random(143)
        for mirrors in (1, 2, 3):
            for rule in (named_rule(mirrors + 1), enlarged(source, named_rule(mirrors + 1), 16)):
                mark = core(rule, mirrors)[0]
                for _ in range(200):
                    lying = tuple(source.randrange(16) for _ in range(mirrors))
                    mark = choice(rule, mirrors, mark, lying)
                    self.assertIn(mark, core(rule, mirrors))


class GameOnDevices(unittest.TestCase):
    """Guarantee (b), as far as devices show it: an attacker lays its marks behind the slot that is written."""

    def lay(self, device, slot, marks):
        """Write the marks into the slot, and where there are fewer than mirrors a mark that the rule does not have."""
        for mirror, mark in enumerate((*marks, 15, 15, 15)[:device.mirrors()]):
            device.write(mirror, slot, (mark, "lies"))

    def written(self, device, slot, mark):
        """Return a clone of the device with the record written to every mirror."""
        twin = device.clone()
        for mirror in range(device.mirrors()):
            twin.write(mirror, slot, (mark, "new"))
        return twin

    def finds_its_end(self, device, rule, row):
        return all(records(device, rule, mirror) == row for mirror in range(device.mirrors()))

    def check_stopped(self, rule, mirrors, mark):
        """Check that a writer appends as often as it can, and not once more; return how often."""
        device = Device((((15, "old"),) * 32,) * mirrors)
        device.set_header(0, mark)
        attacker = Attacker(rule, mirrors, mark)
        row = ()
        while True:
            self.lay(device, len(row) + 1, attacker.lying())
            right = [other for other in range(len(rule))
                     if self.finds_its_end(self.written(device, len(row), other), rule, row + ((other, "new"),))]
            self.assertEqual(tuple(right), fitting(rule, attacker.mark(), attacker.lying()))
            if not right:
                return len(row)
            best = max(right, key=lambda other: appends_left(rule, mirrors, other))
            device = self.written(device, len(row), best)
            attacker.wrote(best)
            row += ((best, "new"),)

    def test_writers_are_stopped_on_devices(self):
        lengths = set()
        for rule, mirrors in itertools.product(rules_up_to(15, 150, 4), (1, 2, 3)):
            for mark in range(len(rule)):
                count = appends_left(rule, mirrors, mark)
                if count is not None:
                    self.assertEqual(self.check_stopped(rule, mirrors, mark), count)
                    lengths.add(count)
        self.assertTrue({0, 1, 2, 3} <= lengths, lengths)


class FullSight(unittest.TestCase):
    """Guarantee (c)."""

    def test_either_contents_that_block_or_a_family(self):
        for rule, mirrors in itertools.product(rules_up_to(12, 144, 6), (1, 2, 3)):
            for mark in range(len(rule)):
                contents, members = blocking(rule, mirrors, mark), family(rule, mirrors, mark)
                if contents is None:
                    self.assertIs(shows_sight(rule, mirrors, mark, members), True)
                else:
                    self.assertIsNone(members)
                    self.assertIsNone(row_for(rule, mark, contents))

    def test_no_family_for_a_mark_that_is_blocked(self):
        sets = [found for count in (1, 2, 3) for found in itertools.combinations(range(3), count)]
        families = [tuple(sorted(itertools.compress(sets, chosen)))
                    for chosen in itertools.product((False, True), repeat=len(sets))]
        for rule in some_rules(random.Random(145), 3, 25):
            for mark in range(3):
                shown = any(shows_sight(rule, 1, mark, members) for members in families)
                self.assertEqual(shown, blocking(rule, 1, mark) is None)

    def test_a_mark_of_the_core_is_never_blocked(self):
        for rule, mirrors in itertools.product(rules_up_to(12, 146, 6), (1, 2, 3)):
            for mark in core(rule, mirrors):
                self.assertIsNone(blocking(rule, mirrors, mark))
                self.assertIsNotNone(family(rule, mirrors, mark))
        for rule in all_rules(4):
            if names_of(rule) is not None:
                self.assertEqual([blocking(rule, 1, mark) for mark in core(rule, 1)], [None] * 4)

    def test_from_a_mark_of_the_core_there_is_always_a_row(self):
        source = random.Random(147)
        for mirrors in (1, 2, 3):
            for rule in (named_rule(4), enlarged(source, named_rule(mirrors + 1), 16)):
                for mark in core(rule, mirrors):
                    contents = tuple(tuple(source.randrange(16) for _ in range(mirrors)) for _ in range(40))
                    self.assertTrue(reference.is_row(rule, mark, contents, row_for(rule, mark, contents)))
                    self.assertNotEqual(ends(rule, mark, contents), ())


class FewestMarks(unittest.TestCase):
    """Guarantee (d)."""

    def test_named_marks_with_one_value_more_than_mirrors_serve(self):
        for mirrors in (1, 2, 3):
            rule = named_rule(mirrors + 1)
            self.assertIs(serves(rule, mirrors), True)
            self.assertEqual(core(rule, mirrors), tuple(range(fewest_marks(mirrors))))
            self.assertIs(serves(named_rule(mirrors), mirrors), False)

    def test_named_marks_called_otherwise_serve(self):
        source = random.Random(148)
        for mirrors in (1, 2, 3):
            marks = fewest_marks(mirrors)
            for _ in range(20):
                rule = called(named_rule(mirrors + 1), tuple(source.sample(range(marks), marks)))
                self.assertTrue(is_rule(rule))
                self.assertEqual(rounds(rule, mirrors), ())

    def test_no_rule_with_fewer_marks_serves(self):
        for marks in (1, 2, 3):
            for rule, mirrors in itertools.product(all_rules(marks), (1, 2, 3)):
                self.assertIs(serves(rule, mirrors), False)
        source = random.Random(149)
        for mirrors in (2, 3):
            for marks in range(4, fewest_marks(mirrors)):
                for rule in some_rules(source, marks, 40):
                    self.assertIs(serves(rule, mirrors), False)
            rule = named_rule(mirrors + 1)
            for mark in range(len(rule)):
                others = tuple(other for other in range(len(rule)) if other != mark)
                self.assertIs(serves(cut_down(rule, others), mirrors), False)

    def test_a_rule_with_four_marks_serves_one_mirror_if_and_only_if_it_has_names(self):
        count = 0
        for rule in all_rules(4):
            self.assertIs(serves(rule, 1), names_of(rule) is not None, rule)
            count += serves(rule, 1)
        self.assertGreater(count, 0)

    def test_named_marks_with_a_follower_left_out_or_put_in_have_no_names(self):
        for mark, other in itertools.product(range(4), repeat=2):
            rule = toggled(named_rule(2), mark, other)
            self.assertIs(serves(rule, 1), False)
            self.assertIsNone(names_of(rule))


if __name__ == "__main__":
    unittest.main()
