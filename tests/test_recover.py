"""Point 13: recovery."""

import itertools
import random
import unittest

from logging_walks import Pair, some_crash, some_log_call
from nextmarks.devices import Device
from nextmarks.errors import BadHeader, MarkError, NoHeader, NotServing, PowerLost
from nextmarks.games import core, serves
from nextmarks.logs import Log, format_log, recover
from nextmarks.names import named_rule
from nextmarks.readers import payloads, records
from plain import view
from samples import (
    calls_by_name, enlarged, no_followers, rules_up_to, same, serving_rules, some_kept, some_payload, some_rings)

OLD = (((1, "old"), (3, "old"), (3, "old"), (0, "old")),)


class Walks(unittest.TestCase):
    """Logs that crash and are recovered, beside plain ones."""

    def recovered(self, source, pair):
        """Recover a pair, interrupted at each step and called again; return how many steps that takes."""
        broken = pair.broken_off("recover")
        for twin in broken:
            for _ in range(2):
                again = twin.copy()
                some_crash(source, again)
                for further in again.broken_off("recover"):
                    some_crash(source, further)
                    self.assertTrue(further.run("recover"))
                self.assertTrue(again.run("recover"))
                self.check_mirrors(again)
        self.assertTrue(pair.run("recover"))
        self.check_mirrors(pair)
        return len(broken)

    def check_mirrors(self, pair):
        for mirror in range(pair.device.mirrors()):
            self.assertEqual(records(pair.device, pair.rule, mirror), pair.log.records())
        self.assertEqual(pair.device.unflushed(), ((),) * pair.device.mirrors())

    def walk(self, source, rings, rule, count):
        pair = Pair(self, rings, rule)
        pair.run("format", source.randrange(len(rings[0])))
        steps = set()
        for _ in range(count):
            self.use(source, pair)
            if not pair.device.is_on() or source.random() < 0.9:
                some_crash(source, pair)
            steps.add(self.recovered(source, pair))
        return steps

    def use(self, source, pair):
        """Make some calls, then some appends; at the end of these the power may be lost."""
        for _ in range(source.randrange(pair.log.capacity() + 1)):
            pair.run(*some_log_call(source, pair))
        pair.run("trim", source.randrange(len(pair.log) + 1))
        for _ in range(pair.log.capacity() - len(pair.log)):
            pair.run("append", some_payload(source))
        if source.random() < 0.3:
            pair.allow(source.randrange(4))
            if pair.run(*some_log_call(source, pair)):
                pair.allow(None)

    def test_one_mirror(self):
        source = random.Random(270)
        for rule, slots in itertools.product(serving_rules(source, 1), (2, 3, 5, 9)):
            # One step is the flush: no record is written.
            self.assertEqual(self.walk(source, some_rings(source, 1, slots, 16), rule, 6), {1})

    def test_two_and_three_mirrors(self):
        source = random.Random(271)
        steps = set()
        for mirrors in (2, 3):
            for rule, slots in itertools.product(serving_rules(source, mirrors), (2, 3, 5, 8)):
                steps |= self.walk(source, some_rings(source, mirrors, slots, 16), rule, 6)
        self.assertTrue({1, 3, 4, 5, 6, 7} <= steps, steps)

    def test_long_rings(self):
        source = random.Random(272)
        for mirrors in (1, 2, 3):
            self.walk(source, some_rings(source, mirrors, 64, 16), named_rule(mirrors + 1), 2)

    def test_every_crash_of_two_and_three_mirrors(self):
        source = random.Random(273)
        for mirrors, count in ((2, 1), (2, 2), (2, 3), (3, 1), (3, 2)):
            for slots in (5, 6):
                start = Pair(self, some_rings(source, mirrors, slots, 16), named_rule(mirrors + 1))
                start.run("format", 2)
                start.run("append", "flushed")
                start.run("flush")
                for letter in "xyz"[:count]:
                    start.run("append", letter)
                flags = list(itertools.product((False, True), repeat=count))
                for kept in itertools.product(flags, repeat=mirrors):
                    pair = start.copy()
                    pair.crash(kept)
                    longest = max(max((at for at in range(count + 1) if all(mine[:at])), default=0) for mine in kept)
                    self.assertTrue(pair.run("recover"))
                    self.check_mirrors(pair)
                    self.assertEqual(pair.log.payloads(), ("flushed", "x", "y", "z")[:1 + longest])


class Steps(unittest.TestCase):
    """The four steps, one by one, on devices that are made for them."""

    RULE = named_rule(3)

    def device(self, rows):
        """Return a device with a log of these records for each mirror, at slot 1."""
        rings = []
        for row in rows:
            slots = [(0, "old")] * 5
            for at, record in enumerate(row):
                slots[(1 + at) % 5] = record
            rings.append(tuple(slots))
        device = Device(tuple(rings))
        device.set_header(1, 1)
        return device

    def test_it_flushes_first(self):
        device = self.device(((), ()))
        log = format_log(device, self.RULE)
        log.append("x")
        device.allow(0)
        self.assertRaises(PowerLost, recover, device, self.RULE)
        self.assertEqual([len(writes) for writes in device.unflushed()], [1, 1])
        device.crash(((True,), (True,)))
        device.allow(1)
        self.assertEqual(recover(device, self.RULE).payloads(), ("x",))

    def test_the_longest_row_wins_and_the_first_of_those(self):
        # Mark 3 * own + named: 1 names 1, 4 has and names 1, 3 has 1 and names 0, and behind a row lies 0.
        long, short = ((4, "a"), (4, "b")), ((4, "c"),)
        other = ((4, "d"), (4, "e"))
        for rows, found in (((long, short), "ab"), ((short, long), "ab"), ((long, other), "ab"), ((other, long), "de"),
                            ((short, other, long), "de"), ((short, long, other), "ab"), (((), short, ()), "c"),
                            (((), (), ()), "")):
            rule = named_rule(3) if len(rows) == 2 else named_rule(4)
            device = self.device(rows)
            if len(rows) == 3:
                # With four values mark 5 has and names 1.
                device = self.device([[(5, payload) for mark, payload in row] for row in rows])
            log = recover(device, rule)
            self.assertEqual("".join(log.payloads()), found)
            for mirror in range(len(rows)):
                self.assertEqual(records(device, rule, mirror), log.records())

    def test_an_open_end_is_closed_ahead_of_the_copies(self):
        # Mirror 1 lost the first record of the row, and holds a further one that may follow its last one.
        device = self.device((((4, "a"), (4, "b")), ((0, "old"), (0, "old"), (4, "c"))))
        device.allow(3)
        self.assertRaises(PowerLost, recover, device, self.RULE)
        # Behind b lie the marks 0 and 4, so its mark is the least with the own value 1 that names 2.
        self.assertEqual(device.unflushed(), (((2, (5, "b")),), ((2, (5, "b")),)))
        device.crash(((True,), (True,)))
        device.allow(1)
        self.assertRaises(PowerLost, recover, device, self.RULE)
        device.crash(((), ()))
        device.allow(2)
        self.assertRaises(PowerLost, recover, device, self.RULE)
        self.assertEqual(device.unflushed(), ((), ((1, (4, "a")),)))
        device.crash(((), (False,)))
        device.allow(3)
        self.assertEqual(recover(device, self.RULE).records(), ((4, "a"), (5, "b")))
        self.assertRaises(PowerLost, device.flush)
        self.assertEqual(device.read(1, 3), (4, "c"))

    def test_only_what_a_mirror_does_not_hold_is_written(self):
        device = self.device((((4, "a"), (4, "b"), (5, "c")), ((4, "a"), (4, "x"), (0, "old"))))
        device.allow(3)
        self.assertRaises(PowerLost, recover, device, self.RULE)
        self.assertEqual(device.unflushed(), ((), ((2, (4, "b")), (3, (5, "c")))))

    def test_nothing_to_write(self):
        device = self.device((((4, "a"), (5, "b")),) * 2)
        device.allow(1)
        self.assertEqual(recover(device, self.RULE).records(), ((4, "a"), (5, "b")))

    def test_it_may_be_called_without_a_crash(self):
        source = random.Random(280)
        for mirrors in (1, 2, 3):
            rule = named_rule(mirrors + 1)
            device = Device(some_rings(source, mirrors, 5, len(rule)))
            log = format_log(device, rule, slot=4)
            for letter in "xyz":
                log.append(letter)
            for _ in range(2):
                again = recover(device, rule)
                self.assertEqual((again.records(), again.unflushed()), (log.records(), 0))
                self.assertIsInstance(again, Log)
            self.assertEqual((device.unflushed(), device.crashes()), (((),) * mirrors, 0))
            again.append("w")
            self.assertEqual(payloads(device, rule, mirrors - 1), ("x", "y", "z", "w"))

    def test_clones(self):
        source = random.Random(281)
        for mirrors in (1, 2, 3):
            rule = named_rule(4)
            device = Device(some_rings(source, mirrors, 6, 16))
            log = format_log(device, rule)
            for letter in "xyz":
                log.append(letter)
            device.crash(some_kept(source, device))
            twin = device.clone()
            one, other = recover(device, rule), recover(twin, rule)
            self.assertEqual(one.records(), other.records())
            self.assertTrue(same(view(device), view(twin)))
            one.append("w")
            other.append("w")
            self.assertEqual(device, twin)


class Refusals(unittest.TestCase):
    def refused(self, device, rule, error):
        """Check that recover raises the error and changes nothing, with and without steps that are allowed."""
        for limit in (None, 0):
            device.allow(limit)
            before = view(device)
            with self.assertRaises(error) as caught:
                recover(device, rule)
            self.assertIsInstance(caught.exception, MarkError)
            self.assertTrue(same((view(device), device.is_on()), (before, True)))
        self.assertRaises(PowerLost, device.flush)
        self.assertRaises(error, recover, device, rule)
        return caught.exception

    def test_no_header(self):
        for mirrors, rule in itertools.product((1, 2, 3), (named_rule(4), named_rule(1), no_followers(3))):
            device = Device(OLD * mirrors)
            device.write(0, 0, (2, "x"))
            self.refused(device, rule, NoHeader)

    def test_rules_that_do_not_serve(self):
        refused = 0
        for rule, mirrors in itertools.product(rules_up_to(9, 290, 4), (1, 2, 3)):
            if not serves(rule, mirrors):
                for mark in (0, 15):
                    device = Device(OLD * mirrors)
                    device.set_header(1, mark)
                    device.write(0, 0, (2, "x"))
                    self.refused(device, rule, NotServing)
                refused += 1
        self.assertGreater(refused, 100)

    def test_headers_whose_mark_is_not_in_the_core(self):
        source = random.Random(291)
        rules = [(rule, mirrors) for mirrors in (1, 2, 3) for rule in serving_rules(source, mirrors)]
        rules += [(enlarged(source, named_rule(2), 7), 1) for _ in range(10)]
        beside = 0
        for rule, mirrors in rules:
            for mark in range(16):
                device = Device((((0, "a"), (0, "b")),) * mirrors)
                device.set_header(1, mark)
                if mark not in core(rule, mirrors):
                    device.write(0, 0, (2, "x"))
                    error = self.refused(device, rule, BadHeader)
                    self.assertTrue(same(error.value, (1, mark)))
                    beside += mark < len(rule)
        self.assertGreater(beside, 5)

    def test_without_power(self):
        device = Device(OLD)
        format_log(device, named_rule(2))
        device.allow(0)
        for _ in range(2):
            self.assertRaises(PowerLost, recover, device, named_rule(2))
            self.assertIs(device.is_on(), False)

    def test_arguments(self):
        device = Device(OLD)
        format_log(device, named_rule(2)).append("x")
        for log in calls_by_name(recover, {"device": device, "rule": named_rule(2)}):
            self.assertEqual(log.payloads(), ("x",))


if __name__ == "__main__":
    unittest.main()
