"""Point 11: readers."""

import itertools
import random
import unittest

from nextmarks.devices import Device
from nextmarks.errors import MarkError, NoHeader
from nextmarks.names import named_rule
from nextmarks.readers import payloads, records
from plain import PlainDevice, row, view
from samples import all_followers, calls_by_name, ring, rules_up_to, same, shapes, some_kept, some_rings


def numbered(slots, marks):
    """Return a ring whose marks go round, and whose payloads tell the slots."""
    return tuple((slot % marks, chr(97 + slot // 26) + chr(97 + slot % 26)) for slot in range(slots))


class Readers(unittest.TestCase):
    def check(self, device, plain, rule):
        """Check both functions for all mirrors, and return how many records they accept."""
        counts = []
        for mirror in range(device.mirrors()):
            expected = row(plain, rule, mirror)
            self.assertTrue(same(records(device, rule, mirror), expected))
            self.assertTrue(same(payloads(device, rule, mirror), tuple(record[1] for record in expected)))
            counts.append(len(expected))
        return counts

    def test_beside_a_plain_reader(self):
        source = random.Random(230)
        counts = set()
        for rule in rules_up_to(16, 231, 8):
            mirrors, slots = source.randrange(1, 4), source.choice((2, 3, 4, 7, 64))
            rings = some_rings(source, mirrors, slots, source.choice((len(rule), 16)))
            device, plain = Device(rings), PlainDevice(rings)
            for _ in range(6):
                header = (source.randrange(slots), source.randrange(16))
                for one in (device, plain):
                    one.set_header(*header)
                counts.update(self.check(device, plain, rule))
        self.assertTrue({0, 1, 2, 3, 6, 63} <= counts)

    def test_unflushed_records(self):
        source = random.Random(232)
        for rule in rules_up_to(6, 233, 8):
            rings = some_rings(source, 2, 4, len(rule))
            device, plain = Device(rings), PlainDevice(rings)
            for _ in range(12):
                header = (source.randrange(4), source.randrange(len(rule)))
                write = (source.randrange(2), source.randrange(4), (source.randrange(len(rule)), "new"))
                for one in (device, plain):
                    one.set_header(*header)
                    one.write(*write)
                self.check(device, plain, rule)
                if source.random() < 0.2:
                    kept = some_kept(source, device)
                    device.crash(kept)
                    plain.crash(kept)
                    self.check(device, plain, rule)

    def test_full_rings(self):
        for slots, mirrors, marks in itertools.product((2, 3, 4, 63, 64), (1, 2, 3), (1, 2, 16)):
            device = Device((numbered(slots, 1),) * mirrors)
            for start in range(slots):
                device.set_header(start, 0)
                expected = tuple(numbered(slots, 1)[(start + at) % slots] for at in range(slots - 1))
                for mirror in range(mirrors):
                    self.assertEqual(records(device, all_followers(marks), mirror), expected)

    def test_rows_that_end_at_each_place(self):
        for slots, start, count in itertools.product((2, 3, 5, 9), range(9), range(9)):
            if start < slots and count < slots:
                slot_marks = [0] * slots
                for at in range(count):
                    slot_marks[(start + at) % slots] = at + 1
                device = Device((tuple((mark, "abcdefghi"[mark - 1]) for mark in slot_marks),))
                device.set_header(start, 0)
                # Behind the row lies mark 0, which may follow 15 alone.
                self.assertEqual("".join(payloads(device, ring(16), 0)), "abcdefghi"[:count])

    def test_rules_of_one_to_sixteen_marks(self):
        for marks in range(1, 17):
            for mark, other in itertools.product(range(16), repeat=2):
                device = Device((((other, "a"), (other, "b")),))
                device.set_header(0, mark)
                for rule in shapes(marks):
                    is_first = mark < marks and other in rule[mark]
                    self.assertEqual(payloads(device, rule, 0), ("a",) if is_first else ())

    def test_headers_with_a_mark_that_the_rule_does_not_have(self):
        for marks in range(1, 16):
            device = Device((((0, "a"), (0, "b"), (0, "c")), ((marks, "a"), (marks, "b"), (marks, "c"))))
            for mark in range(marks, 16):
                device.set_header(1, mark)
                self.assertEqual([records(device, all_followers(marks), mirror) for mirror in (0, 1)], [(), ()])
            device.set_header(1, marks - 1)
            self.assertEqual(payloads(device, all_followers(marks), 0), ("b", "c"))
            self.assertEqual(payloads(device, all_followers(marks), 1), ())

    def test_no_header(self):
        for mirrors in (1, 2, 3):
            device = Device(((numbered(4, 1)),) * mirrors)
            before = view(device)
            for function, mirror in itertools.product((records, payloads), range(mirrors)):
                with self.assertRaises(NoHeader) as caught:
                    function(device, all_followers(1), mirror)
                self.assertIsInstance(caught.exception, MarkError)
            self.assertEqual(view(device), before)

    def test_without_power(self):
        device = Device((numbered(4, 1),))
        device.set_header(0, 0)
        device.allow(0)
        self.assertRaises(MarkError, device.flush)
        self.assertEqual(payloads(device, all_followers(1), 0), ("aa", "ab", "ac"))

    def test_devices_are_not_changed(self):
        source = random.Random(234)
        device = Device(some_rings(source, 3, 5, 4))
        device.set_header(2, 1)
        device.write(1, 2, (2, "x"))
        device.allow(0)
        before = view(device)
        for mirror in range(3):
            records(device, named_rule(2), mirror)
            payloads(device, named_rule(2), mirror)
        self.assertTrue(same(view(device), before))
        self.assertIs(device.is_on(), True)

    def test_arguments(self):
        device = Device((((0, "a"), (0, "b"), (1, "c")), ((1, "d"), (1, "e"), (1, "f"))))
        device.set_header(0, 0)
        arguments = {"device": device, "rule": ((0,), (1,)), "mirror": 0}
        self.assertEqual(calls_by_name(records, arguments), [((0, "a"), (0, "b"))] * 6)
        self.assertEqual(calls_by_name(payloads, arguments), [("a", "b")] * 6)
        self.assertEqual(records(device, ((0,), (1,)), 1), ())


if __name__ == "__main__":
    unittest.main()
