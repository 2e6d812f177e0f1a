"""Point 15: exploration, and point 3, guarantee (e)."""

import itertools
import random
import unittest

from nextmarks.devices import Device
from nextmarks.errors import BadKept, MarkError, NoHeader, PowerLost, TooMany
from nextmarks.explore import crash_rows, kept_choices
from nextmarks.logs import format_log, recover
from nextmarks.names import named_rule
from nextmarks.readers import payloads
from plain import view
from samples import calls_by_name, rules_up_to, same, serving_rules, some_kept, some_rings


def counts_up_to(most, mirrors):
    """Return the numbers of writes for each mirror that make at most so many together."""
    return [counts for counts in itertools.product(range(most + 1), repeat=mirrors) if sum(counts) <= most]


def written_device(source, counts, slots, marks, chosen=None):
    """Return a device with so many unflushed writes on each mirror, mixed, to the chosen number of slots."""
    device = Device(some_rings(source, len(counts), slots, marks))
    mirrors = [mirror for mirror, count in enumerate(counts) for _ in range(count)]
    source.shuffle(mirrors)
    for mirror in mirrors:
        device.write(mirror, source.randrange(chosen or slots), (source.randrange(marks), source.choice("xyz")))
    return device


def all_kept(device):
    return tuple(itertools.product(*(
        itertools.product((False, True), repeat=len(writes)) for writes in device.unflushed())))


def all_rows(device, rule):
    """Return what every single crash of the device leaves."""
    found = set()
    for kept in all_kept(device):
        twin = device.clone()
        twin.crash(kept)
        found.add(tuple(payloads(twin, rule, mirror) for mirror in range(device.mirrors())))
    return tuple(sorted(found))


class KeptChoices(unittest.TestCase):
    def check(self, device):
        before = view(device)
        found = kept_choices(device)
        self.assertTrue(same(found, all_kept(device)))
        self.assertEqual(found, tuple(sorted(set(found))))
        self.assertEqual(len(found), 2 ** sum(map(len, device.unflushed())))
        self.assertTrue(same(view(device), before))
        return found

    def test_one_to_three_mirrors(self):
        source = random.Random(310)
        for mirrors, most in ((1, 8), (2, 5), (3, 4)):
            for counts in counts_up_to(most, mirrors):
                device = written_device(source, counts, 4, 16)
                for kept in self.check(device):
                    device.clone().crash(kept)

    def test_twelve_writes(self):
        source = random.Random(311)
        for counts in ((12,), (0, 12), (12, 0), (5, 7), (4, 4, 4), (0, 12, 0), (10, 1, 1)):
            self.check(written_device(source, counts, 3, 16))

    def test_none(self):
        for mirrors in (1, 2, 3):
            device = Device((((0, "a"), (0, "b")),) * mirrors)
            self.assertTrue(same(kept_choices(device), (((),) * mirrors,)))

    def test_with_limits_and_without_power(self):
        source = random.Random(312)
        device = written_device(source, (2, 1), 3, 16)
        device.allow(0)
        self.check(device)
        self.assertIs(device.is_on(), True)
        self.assertRaises(PowerLost, device.flush)
        self.check(device)
        self.assertIs(device.is_on(), False)

    def test_arguments(self):
        device = written_device(random.Random(313), (1,), 3, 16)
        self.assertEqual(calls_by_name(kept_choices, {"device": device}), [(((False,),), ((True,),))])


class CrashRows(unittest.TestCase):
    def check(self, device, rule):
        before, was_on = view(device), device.is_on()
        found = crash_rows(device, rule)
        self.assertTrue(same(found, all_rows(device, rule)))
        self.assertTrue(same((view(device), device.is_on()), (before, was_on)))
        return found

    def test_one_to_three_mirrors(self):
        source = random.Random(320)
        sizes = set()
        for mirrors, most in ((1, 6), (2, 4), (3, 3)):
            for counts in counts_up_to(most, mirrors):
                for values, slots, chosen in ((1, 4, None), (2, 3, None), (2, 4, 2), (3, 5, 3)):
                    device = written_device(source, counts, slots, values * values, chosen)
                    device.set_header(source.randrange(slots), source.randrange(values * values))
                    sizes.add(len(self.check(device, named_rule(values))))
        self.assertGreater(len(sizes), 8)

    def test_other_rules(self):
        source = random.Random(321)
        for rule in rules_up_to(16, 322, 6):
            mirrors = source.randrange(1, 4)
            device = written_device(source, (2,) * mirrors, 3, len(rule))
            device.set_header(source.randrange(3), source.randrange(16))
            self.check(device, rule)

    def test_twelve_writes(self):
        source = random.Random(323)
        for counts in ((12,), (6, 6), (4, 4, 4), (12, 0, 0)):
            device = written_device(source, counts, 4, 4)
            device.set_header(0, 1)
            self.check(device, named_rule(2))

    def test_several_writes_to_one_slot(self):
        device = Device((((0, "a"), (1, "b")),))
        device.set_header(0, 0)
        for mark, payload in ((0, "c"), (1, "d"), (0, "e")):
            device.write(0, 0, (mark, payload))
        self.assertEqual(crash_rows(device, ((0,), ())), (((),), (("a",),), (("c",),), (("e",),)))

    def test_flushed_devices(self):
        device = Device((((0, "a"), (0, "b"), (0, "c")),) * 2)
        device.set_header(1, 0)
        self.assertEqual(crash_rows(device, ((0,),)), ((("b", "c"), ("b", "c")),))
        self.assertEqual(crash_rows(device, ((),)), (((), ()),))

    def test_with_limits_and_without_power(self):
        device = written_device(random.Random(324), (2, 2), 3, 4)
        device.set_header(1, 1)
        device.allow(0)
        self.check(device, named_rule(2))
        self.assertRaises(PowerLost, device.flush)
        self.check(device, named_rule(2))

    def test_arguments(self):
        device = written_device(random.Random(325), (2, 1), 3, 4)
        device.set_header(1, 1)
        results = calls_by_name(crash_rows, {"device": device, "rule": named_rule(2)})
        self.assertEqual(results, [all_rows(device, named_rule(2))] * 2)


class Refusals(unittest.TestCase):
    def test_too_many_writes(self):
        source = random.Random(330)
        for counts in ((13,), (14,), (40,), (7, 6), (0, 13), (13, 13), (5, 4, 4), (13, 0, 0), (12, 0, 1), (12, 12, 12)):
            for has_header in (False, True):
                device = written_device(source, counts, 3, 4)
                if has_header:
                    device.set_header(0, 0)
                before = view(device)
                for call in (kept_choices, lambda one: crash_rows(one, named_rule(2))):
                    with self.assertRaises(TooMany) as caught:
                        call(device)
                    self.assertTrue(same(caught.exception.count, sum(counts)))
                    self.assertIsInstance(caught.exception, MarkError)
                    self.assertTrue(same(view(device), before))

    def test_no_header(self):
        source = random.Random(331)
        for counts in ((0,), (2,), (12,), (1, 1), (0, 0, 0), (4, 4, 4)):
            device = written_device(source, counts, 3, 4)
            before = view(device)
            with self.assertRaises(NoHeader):
                crash_rows(device, named_rule(2))
            self.assertTrue(same(view(device), before))
            self.assertEqual(len(kept_choices(device)), 2 ** sum(counts))

    def test_choices_are_all_that_crash_accepts(self):
        device = written_device(random.Random(332), (1, 2), 3, 4)
        found = kept_choices(device)
        for kept in itertools.product(itertools.chain(*(
                itertools.product((False, True), repeat=count) for count in range(4))), repeat=2):
            if kept not in found:
                self.assertRaises(BadKept, device.crash, kept)


class Guarantee(unittest.TestCase):
    """Guarantee (e)."""

    def check(self, device, rule, log, flushed):
        beginnings = [log.payloads()[:count] for count in range(flushed, len(log) + 1)]
        expected = tuple(sorted(set(itertools.product(beginnings, repeat=device.mirrors()))))
        self.assertEqual(crash_rows(device, rule), expected)
        self.assertEqual(all_rows(device, rule), expected)

    def test_only_appends_since_the_last_flush(self):
        source = random.Random(340)
        for mirrors, most in ((1, 6), (2, 3), (3, 2)):
            for rule, slots in itertools.product(serving_rules(source, mirrors)[:6], (4, 7, 12)):
                device = Device(some_rings(source, mirrors, slots, len(rule)))
                log = format_log(device, rule, slot=source.randrange(slots))
                for lap in range(4):
                    flushed = len(log)
                    while len(log) < log.capacity() and log.unflushed() < most:
                        self.check(device, rule, log, flushed)
                        log.append(source.choice(("", "x", "y", "abcdefgh")))
                    self.check(device, rule, log, flushed)
                    if lap % 2:
                        log.trim(source.randrange(len(log) + 1))
                    else:
                        device.crash(some_kept(source, device))
                        log = recover(device, rule)
                        self.check(device, rule, log, len(log))

    def test_what_crashes_leave_behind_interrupted_calls(self):
        source = random.Random(341)
        for mirrors in (1, 2, 3):
            rule = named_rule(mirrors + 1)
            for limit in range(2 * mirrors + 2):
                device = Device(some_rings(source, mirrors, 4, len(rule)))
                log = format_log(device, rule)
                log.append("x")
                log.append("y")
                device.allow(limit)
                try:
                    log.cut(1)
                except PowerLost:
                    pass
                self.assertEqual(crash_rows(device, rule), all_rows(device, rule))


if __name__ == "__main__":
    unittest.main()
