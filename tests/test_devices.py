"""Point 10: records and devices."""

import copy
import itertools
import random
import unittest

from nextmarks.devices import Device, is_record
from nextmarks.errors import (
    BadHeader, BadKept, BadMirrors, BadPlace, BadRecord, MarkError, PowerLost)
from plain import Lost, PlainDevice, view
from samples import (
    BAD_RECORDS, OTHER_KINDS, calls_by_name, nested, nested_lists, nested_tuples, same, some_kept, some_rings)

OLD = (((1, "old"), (3, "old"), (3, "old"), (0, "old")),)
TWO = (((1, "a"), (2, "b"), (3, "c")), ((4, "d"), (5, "e"), (6, "f")))


def some_call(source, device, limits):
    """Return a method and arguments that are right for the device."""
    slot, mark = source.randrange(len(device)), source.randrange(16)
    calls = [("write", source.randrange(device.mirrors()), slot, (mark, source.choice(("", "x", "abcdefgh"))))] * 10
    calls += [("flush",), ("set_header", slot, mark), ("crash", some_kept(source, device))]
    if limits:
        calls += [("allow", source.choice((None, 0, 1, 2, 5)))] * 2
    return source.choice(calls)


class Records(unittest.TestCase):
    def test_marks_and_payloads(self):
        for mark in range(16):
            for payload in ("", "a", "z", "old", "abcdefgh", "zzzzzzzz"):
                self.assertIs(is_record((mark, payload)), True)
        for letter in map(chr, range(128)):
            self.assertIs(is_record((0, letter)), "a" <= letter <= "z", letter)
            self.assertIs(is_record((15, "abc" + letter + "defg")), "a" <= letter <= "z", letter)

    def test_lengths(self):
        for length in range(12):
            self.assertIs(is_record((7, "x" * length)), length <= 8)

    def test_other_values(self):
        for value in (*BAD_RECORDS, *OTHER_KINDS):
            self.assertIs(is_record(value), False, value)

    def test_arguments(self):
        self.assertEqual(calls_by_name(is_record, {"value": (3, "old")}), [True])
        value = (0, [nested(50)])
        kept = copy.deepcopy(value)
        is_record(value)
        self.assertTrue(same(value, kept))


class Mirrors(unittest.TestCase):
    def refused(self, value):
        kept = copy.deepcopy(value)
        with self.assertRaises(BadMirrors) as caught:
            Device(value)
        self.assertIs(caught.exception.value, value)
        self.assertIsInstance(caught.exception, MarkError)
        self.assertTrue(same(value, kept))

    def test_numbers_of_mirrors_and_slots(self):
        source = random.Random(200)
        for mirrors, slots in itertools.product(range(6), (0, 1, 2, 3, 63, 64, 65, 66)):
            rings = some_rings(source, mirrors, slots, 16)
            if 1 <= mirrors <= 3 and 2 <= slots <= 64:
                device = Device(rings)
                self.assertTrue(same((device.mirrors(), len(device)), (mirrors, slots)))
                self.assertTrue(same(view(device), (None, rings, ((),) * mirrors, 0)))
                self.assertIs(device.is_on(), True)
            else:
                self.refused(rings)

    def test_unlike_lengths(self):
        source = random.Random(201)
        for lengths in itertools.product((2, 3, 64), repeat=2):
            for rings in (lengths, (*lengths, lengths[0]), (lengths[0], *lengths)):
                value = tuple(some_rings(source, 1, slots, 16)[0] for slots in rings)
                if len(set(rings)) == 1:
                    self.assertEqual(Device(value).mirrors(), len(rings))
                else:
                    self.refused(value)

    def test_wrong_records_anywhere(self):
        for mirror, slot in itertools.product(range(2), range(3)):
            for record in BAD_RECORDS:
                rings = [list(ring) for ring in TWO]
                rings[mirror][slot] = record
                self.refused(tuple(map(tuple, rings)))

    def test_marks_and_payloads_at_their_limits(self):
        for record in ((0, ""), (15, "abcdefgh"), (15, ""), (0, "zzzzzzzz")):
            self.assertEqual(Device(((record, record),)).read(0, 1), record)

    def test_other_kinds(self):
        for value in OTHER_KINDS:
            self.refused(value)
        for value in (list(TWO), [TWO[0]], (list(TWO[0]),), (TWO[0], list(TWO[1])), TWO[0], (TWO,), {0: TWO[0]},
                      ({0: (1, "a"), 1: (1, "a")},), (TWO[0], None), (TWO[0], ()), (TWO[0], "abc"), (None,), ("ab",),
                      ((nested(57), nested(57)),), (TWO[0], nested_tuples(59)), (nested_lists(59),), nested_tuples(61)):
            self.refused(value)

    def test_arguments(self):
        self.assertEqual(view(calls_by_name(Device, {"mirrors": TWO})[0]), view(Device(TWO)))
        with self.assertRaises(BadMirrors) as caught:
            Device(mirrors=7)
        self.assertEqual(caught.exception.value, 7)


class Steps(unittest.TestCase):
    """Devices beside plain ones."""

    def check(self, device, plain):
        self.assertTrue(same(view(device), plain.view()))
        self.assertTrue(same((device.mirrors(), len(device)), (len(plain.rings), plain.slots)))
        self.assertIs(device.is_on(), plain.power)

    def call(self, device, plain, name, *arguments):
        """Call a method of both; return whether the power was there."""
        try:
            getattr(plain, name)(*arguments)
        except Lost:
            before = view(device)
            with self.assertRaises(PowerLost) as caught:
                getattr(device, name)(*arguments)
            self.assertEqual(vars(caught.exception), {})
            self.assertTrue(same(view(device), before))
            return False
        self.assertIsNone(getattr(device, name)(*arguments))
        return True

    def walk(self, source, rings, limits, count):
        device, plain = Device(rings), PlainDevice(rings)
        lost = 0
        for _ in range(count):
            lost += not self.call(device, plain, *some_call(source, device, limits))
            self.check(device, plain)
        return lost

    def test_walks(self):
        source = random.Random(210)
        for mirrors, slots in itertools.product((1, 2, 3), (2, 3, 5)):
            for _ in range(6):
                self.assertEqual(self.walk(source, some_rings(source, mirrors, slots, 16), False, 80), 0)
        self.walk(source, some_rings(source, 3, 64, 16), False, 60)

    def test_walks_with_limits(self):
        source = random.Random(211)
        lost = 0
        for mirrors, slots in itertools.product((1, 2, 3), (2, 4)):
            for _ in range(6):
                lost += self.walk(source, some_rings(source, mirrors, slots, 16), True, 80)
        self.assertGreater(lost, 200)

    def test_several_writes_to_one_slot(self):
        for kept in itertools.product((False, True), repeat=3):
            device = Device(OLD)
            for letter in "xyz":
                device.write(0, 2, (5, letter))
            self.assertEqual(device.read(0, 2), (5, "z"))
            self.assertEqual(device.unflushed(), (((2, (5, "x")), (2, (5, "y")), (2, (5, "z"))),))
            device.crash((kept,))
            left = [(5, letter) for letter, stays in zip("xyz", kept) if stays]
            self.assertEqual(device.read(0, 2), left[-1] if left else (3, "old"))
            self.assertEqual(device.unflushed(), ((),))
            device.crash(((),))
            self.assertEqual(device.read(0, 2), left[-1] if left else (3, "old"))

    def test_each_mirror_loses_its_own_writes(self):
        for kept in itertools.product(itertools.product((False, True), repeat=2), repeat=2):
            device = Device(TWO)
            for slot, mirror in itertools.product((0, 2), (0, 1)):
                device.write(mirror, slot, (9, "n"))
            device.crash(kept)
            for mirror, at in itertools.product((0, 1), (0, 1)):
                record = (9, "n") if kept[mirror][at] else TWO[mirror][2 * at]
                self.assertEqual(device.read(mirror, 2 * at), record)
                self.assertEqual(device.read(mirror, 1), TWO[mirror][1])

    def test_flushed_writes_and_headers_stay(self):
        device = Device(OLD)
        device.write(0, 1, (2, "x"))
        device.flush()
        device.set_header(3, 15)
        device.write(0, 1, (2, "y"))
        device.crash(((False,),))
        self.assertEqual((device.read(0, 1), device.header()), ((2, "x"), (3, 15)))
        device.set_header(0, 0)
        device.crash(((),))
        self.assertTrue(same(device.header(), (0, 0)))

    def test_results_do_not_change_later(self):
        device = Device(TWO)
        device.write(1, 0, (9, "n"))
        before = device.unflushed()
        device.write(1, 1, (9, "n"))
        device.flush()
        self.assertEqual(before, ((), ((0, (9, "n")),)))

    def test_arguments_are_not_changed(self):
        device = Device(TWO)
        device.write(0, 0, (9, "n"))
        kept = ((True,), ())
        device.crash(kept)
        self.assertEqual((kept, TWO[0][0]), (((True,), ()), (1, "a")))

    def test_arguments_by_name(self):
        device = Device(TWO)
        calls_by_name(device.write, {"mirror": 1, "slot": 2, "record": (9, "n")})
        self.assertEqual(device.unflushed(), ((), ((2, (9, "n")),) * 6))
        self.assertEqual(calls_by_name(device.read, {"mirror": 1, "slot": 2}), [(9, "n")] * 2)
        self.assertEqual(calls_by_name(device.set_header, {"slot": 1, "mark": 7}), [None] * 2)
        self.assertEqual(device.header(), (1, 7))
        self.assertIsNone(device.crash(kept=((), (False,) * 6)))
        self.assertIsNone(device.allow(steps=0))
        self.assertRaises(PowerLost, device.flush)

    def test_methods_are_defined_in_the_class_itself(self):
        for name in ("__init__", "read", "write", "flush", "header", "set_header", "unflushed", "crash", "crashes",
                     "allow", "is_on", "mirrors", "__len__", "clone", "__eq__"):
            self.assertIn(name, vars(Device))


class Refusals(unittest.TestCase):
    def devices(self):
        """Return devices with two mirrors and three slots: without a limit, at its limit, and without power."""
        devices = []
        for limit in (None, 0, 1):
            device = Device(TWO)
            device.set_header(1, 2)
            device.write(0, 1, (9, "n"))
            device.write(1, 0, (9, "n"))
            device.write(1, 0, (8, "m"))
            device.allow(limit)
            devices.append(device)
        devices.append(devices[1].clone())
        self.assertRaises(PowerLost, devices[-1].flush)
        return devices

    def refused(self, device, error, value, name, *arguments):
        """Check that a call raises the error with the value, and changes nothing."""
        kept = copy.deepcopy(arguments)
        before, was_on = view(device), device.is_on()
        with self.assertRaises(error) as caught:
            getattr(device, name)(*arguments)
        self.assertTrue(same(caught.exception.value, value))
        self.assertTrue(same(arguments, kept))
        self.assertTrue(same((view(device), device.is_on()), (before, was_on)))

    def steps_left(self, device):
        """Return how many steps are done before the power goes off, at most three."""
        twin = device.clone()
        for count in range(3):
            try:
                twin.flush()
            except PowerLost:
                return count
        return 3

    def test_places(self):
        good = ((0, 0), (0, 2), (1, 1), (1, 2))
        bad = [(mirror, slot) for mirror in (-1, 0, 1, 2) for slot in (-1, 0, 2, 3)
               if not (0 <= mirror <= 1 and 0 <= slot <= 2)]
        bad += [(value, 0) for value in OTHER_KINDS if not (type(value) is int and value in (0, 1))]
        bad += [(0, value) for value in OTHER_KINDS if not (type(value) is int and value in (0, 1, 2))]
        bad += [(True, False), (None, None), (nested(60), nested(60)), (64, 64)]
        for device in self.devices():
            left = self.steps_left(device)
            for place in bad:
                self.refused(device, BadPlace, place, "write", *place, (0, "a"))
                self.refused(device, BadPlace, place, "write", *place, (16, "a"))
                self.refused(device, BadPlace, place, "write", *place, nested(60))
            self.assertEqual(self.steps_left(device), left)
        for place in good:
            Device(TWO).write(*place, (0, "a"))

    def test_records(self):
        for device in self.devices():
            left = self.steps_left(device)
            for record in (*BAD_RECORDS, *OTHER_KINDS):
                self.refused(device, BadRecord, record, "write", 1, 2, record)
            self.assertEqual(self.steps_left(device), left)

    def test_the_values_are_the_given_ones(self):
        device = Device(TWO)
        for value in OTHER_KINDS:
            with self.assertRaises(BadRecord) as caught:
                device.write(0, 0, value)
            self.assertIs(caught.exception.value, value)
            with self.assertRaises(BadKept) as caught:
                device.crash(value)
            self.assertIs(caught.exception.value, value)

    def test_headers(self):
        bad = [(slot, mark) for slot in (-1, 0, 2, 3, 63, 64) for mark in (-1, 0, 15, 16)
               if not (0 <= slot <= 2 and 0 <= mark <= 15)]
        bad += [(value, 0) for value in OTHER_KINDS if not (type(value) is int and value in (0, 1, 2))]
        bad += [(0, value) for value in OTHER_KINDS if not (type(value) is int and 0 <= value <= 15)]
        bad += [(True, 0), (0, True), (None, None), (nested(60), nested(60))]
        for device in self.devices():
            left = self.steps_left(device)
            for header in bad:
                self.refused(device, BadHeader, header, "set_header", *header)
            self.assertEqual(self.steps_left(device), left)
        for header in itertools.product((0, 1, 2), (0, 15)):
            device = Device(TWO)
            device.set_header(*header)
            self.assertTrue(same(device.header(), header))

    def test_kept(self):
        right = ((True,), (False, True))
        bad = [((False,) * first, (True,) * second) for first in range(4) for second in range(4)
               if (first, second) != (1, 2)]
        bad += [(), (right[0],), (*right, ()), (*right, right[0]), right[::-1], list(right), (list(right[0]), right[1]),
                (right[0], list(right[1])), ((1,), (False, True)), ((0,), (False, True)), ((True,), (0, True)),
                ((True,), (False, 1)), ((None,), (False, True)), (("1",), (False, True)), (True, (False, True)),
                ((True,), None), {0: (True,), 1: (False, True)}, "101", (True, False, True), ((True,), "01"),
                ((True,), (False, [True])), (right,), ((True,), (False, nested(57))), (nested_tuples(59), right[1])]
        for device in self.devices():
            left = self.steps_left(device)
            for kept in (*bad, *OTHER_KINDS):
                self.refused(device, BadKept, kept, "crash", kept)
            self.assertEqual(self.steps_left(device), left)
            self.assertIsNone(device.crash(right))

    def test_kept_where_nothing_is_unflushed(self):
        for mirrors in (1, 2, 3):
            for value in ((), ((),), ((), ()), ((), (), ()), ((), (), (), ()), [()], ((False,),), None, ((), []), 0):
                device = Device((TWO[0],) * mirrors)
                if value == ((),) * mirrors:
                    device.crash(value)
                    self.assertTrue(same(device.crashes(), 1))
                else:
                    self.refused(device, BadKept, value, "crash", value)


class Power(unittest.TestCase):
    STEPS = (("write", 0, 1, (2, "x")), ("flush",), ("set_header", 1, 2))

    def lost(self, device, name, *arguments):
        before = view(device)
        with self.assertRaises(PowerLost) as caught:
            getattr(device, name)(*arguments)
        self.assertEqual(vars(caught.exception), {})
        self.assertIs(device.is_on(), False)
        self.assertTrue(same(view(device), before))

    def test_limits(self):
        for limit, names in itertools.product(range(4), itertools.product(self.STEPS, repeat=4)):
            device, free = Device(OLD), Device(OLD)
            self.assertIsNone(device.allow(limit))
            for call in names[:limit]:
                getattr(device, call[0])(*call[1:])
                getattr(free, call[0])(*call[1:])
                self.assertIs(device.is_on(), True)
            self.assertTrue(same(view(device), view(free)))
            for call in names[limit:]:
                self.lost(device, *call)
            self.assertEqual(view(device), view(free))

    def test_a_limit_of_none(self):
        device = Device(OLD)
        device.allow(1)
        device.allow(None)
        for _ in range(50):
            device.flush()
        self.assertIs(device.is_on(), True)

    def test_a_limit_counts_from_the_call_on(self):
        device = Device(OLD)
        device.allow(2)
        device.flush()
        device.allow(2)
        device.flush()
        device.flush()
        self.lost(device, "flush")

    def test_reaching_the_limit_leaves_the_power_on(self):
        device = Device(OLD)
        device.allow(1)
        device.flush()
        self.assertIs(device.is_on(), True)
        device.allow(1)
        device.flush()
        self.lost(device, "set_header", 0, 0)

    def test_without_power(self):
        device = Device(OLD)
        device.set_header(2, 3)
        device.write(0, 1, (2, "x"))
        device.allow(0)
        self.lost(device, "write", 0, 2, (2, "y"))
        for limit in (None, 0, 7):
            self.lost(device, "allow", limit)
        for call in self.STEPS:
            self.lost(device, *call)
        self.assertEqual((device.read(0, 1), device.read(0, 2), device.header()), ((2, "x"), (3, "old"), (2, 3)))
        self.assertEqual((device.unflushed(), device.crashes()), ((((1, (2, "x")),),), 0))
        self.assertEqual((device.mirrors(), len(device), device == device.clone()), (1, 4, True))

    def test_a_crash_turns_the_power_on_without_a_limit(self):
        for limit, is_lost in ((0, True), (0, False), (3, False), (None, False)):
            device = Device(OLD)
            device.write(0, 1, (2, "x"))
            device.allow(limit)
            if is_lost:
                self.lost(device, "flush")
            self.assertIsNone(device.crash(((True,),)))
            self.assertIs(device.is_on(), True)
            for _ in range(10):
                device.flush()
            self.assertEqual((device.read(0, 1), device.crashes()), ((2, "x"), 1))

    def test_crashes_are_counted(self):
        device = Device(OLD)
        for count in range(5):
            self.assertTrue(same(device.crashes(), count))
            device.crash(((),))


class Clones(unittest.TestCase):
    def sample(self):
        device = Device(TWO)
        device.set_header(1, 2)
        device.write(0, 1, (9, "n"))
        device.write(1, 2, (8, "m"))
        device.write(1, 2, (7, "k"))
        return device

    def equal(self, one, other):
        self.assertIs(one == other, True)
        self.assertIs(other == one, True)
        self.assertIs(one != other, False)

    def unlike(self, one, other):
        self.assertIs(one == other, False)
        self.assertIs(other == one, False)
        self.assertIs(one != other, True)

    def test_devices_that_are_equal(self):
        self.equal(Device(TWO), Device(copy.deepcopy(TWO)))
        self.equal(self.sample(), self.sample())
        device = self.sample()
        self.equal(device, device)
        self.equal(device, device.clone())

    def test_writes_that_were_flushed_are_like_records_that_were_there(self):
        device = Device(TWO)
        device.write(0, 1, (9, "n"))
        device.flush()
        self.equal(device, Device(((TWO[0][0], (9, "n"), TWO[0][2]), TWO[1])))

    def test_the_sequence_of_writes_to_different_mirrors_does_not_count(self):
        one, other = Device(TWO), Device(TWO)
        for device, mirrors in ((one, (0, 1)), (other, (1, 0))):
            for mirror in mirrors:
                device.write(mirror, 1, (9, "n"))
        self.equal(one, other)

    def test_devices_that_are_unlike_in_one_thing(self):
        changes = (
            ("write", 0, 1, (9, "n")), ("write", 1, 0, (4, "d")), ("set_header", 1, 3), ("set_header", 2, 2),
            ("set_header", 0, 0), ("flush",), ("crash", ((True,), (True, True))), ("crash", ((False,), (False, False))))
        for change in changes:
            device = self.sample()
            getattr(device, change[0])(*change[1:])
            self.unlike(device, self.sample())
        for mirror, slot in itertools.product(range(2), range(3)):
            for record in ((TWO[mirror][slot][0] + 1, TWO[mirror][slot][1]), (TWO[mirror][slot][0], "")):
                rings = [list(ring) for ring in TWO]
                rings[mirror][slot] = record
                self.unlike(Device(tuple(map(tuple, rings))), Device(TWO))

    def test_devices_with_unlike_writes(self):
        first, second = (0, 1, (9, "n")), (0, 2, (9, "n"))
        for one, other in (((first,), ()), ((first,), (second,)), ((first, second), (second, first)),
                           ((first, first), (first,)), ((first,), ((1, 1, (9, "n")),)),
                           ((first,), ((0, 1, (8, "n")),)), ((first,), ((0, 1, (9, "m")),))):
            devices = (Device(TWO), Device(TWO))
            for device, writes in zip(devices, (one, other)):
                for write in writes:
                    device.write(*write)
            self.unlike(*devices)

    def test_devices_with_unlike_numbers_of_mirrors_or_slots(self):
        shapes = [Device(((((0, ""),) * slots),) * mirrors) for mirrors in (1, 2, 3) for slots in (2, 3, 64)]
        for one, other in itertools.combinations(shapes, 2):
            self.unlike(one, other)

    def test_no_header_is_unlike_any_header(self):
        device = Device(TWO)
        device.set_header(0, 0)
        self.unlike(device, Device(TWO))

    def test_what_does_not_count(self):
        device = self.sample()
        device.allow(0)
        self.equal(device, self.sample())
        self.assertRaises(PowerLost, device.flush)
        self.equal(device, self.sample())
        device = Device(TWO)
        device.crash(((), ()))
        self.equal(device, Device(TWO))

    def test_a_device_equals_nothing_else(self):
        device = Device(TWO)
        for value in (*OTHER_KINDS, TWO, view(device), PlainDevice(TWO), Device, object()):
            self.unlike(device, value)

    def test_clones_have_the_limit_the_power_and_the_crashes(self):
        device = self.sample()
        device.crash(((True,), (False, True)))
        device.crash(((), ()))
        device.write(0, 0, (1, "b"))
        for limit in (None, 0, 1, 2):
            device.allow(limit)
            twin = device.clone()
            self.assertTrue(same((view(twin), twin.is_on()), (view(device), True)))
            for _ in range(2 if limit is None else limit):
                twin.flush()
            if limit is not None:
                self.assertRaises(PowerLost, twin.flush)
                self.assertIs(twin.clone().is_on(), False)
                self.assertRaises(PowerLost, twin.clone().flush)
                self.assertRaises(PowerLost, twin.clone().allow, None)
            self.assertIs(device.is_on(), True)
        twin.crash(((), ()))
        self.assertEqual((twin.crashes(), device.crashes()), (3, 2))

    def test_clones_and_originals_do_not_influence_each_other(self):
        changes = (("write", 0, 1, (5, "w")), ("write", 1, 2, (5, "w")), ("flush",), ("set_header", 2, 9), ("allow", 0),
                   ("crash", ((True,), (False, True))))
        for change, is_clone in itertools.product(changes, (False, True)):
            device = self.sample()
            twin = device.clone()
            self.assertIsInstance(twin, Device)
            one, other = (twin, device) if is_clone else (device, twin)
            before = view(other)
            getattr(one, change[0])(*change[1:])
            self.assertTrue(same(view(other), before))
            self.assertEqual(view(other), view(self.sample()))
            other.flush()
            self.assertIs(other.is_on(), True)

    def test_clones_go_on_like_their_originals(self):
        source = random.Random(220)
        for mirrors in (1, 2, 3):
            device = Device(some_rings(source, mirrors, 4, 16))
            for _ in range(100):
                twin = device.clone()
                self.equal(device, twin)
                call = some_call(source, device, False)
                for one in (device, twin):
                    getattr(one, call[0])(*call[1:])
                self.assertTrue(same(view(device), view(twin)))
                self.equal(device, twin)


if __name__ == "__main__":
    unittest.main()
