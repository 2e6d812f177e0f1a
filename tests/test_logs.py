"""Points 12 and 14: logs, cutting and trimming."""

import copy
import itertools
import random
import unittest

from logging_walks import Pair, some_log_call
from nextmarks.devices import Device
from nextmarks.errors import BadCount, BadPayload, Full, MarkError, NotServing, PowerLost, Stale
from nextmarks.games import choice, core, serves
from nextmarks.logs import Log, format_log, recover
from nextmarks.names import named_rule
from nextmarks.readers import payloads, records
from plain import view
from samples import (
    BAD_PAYLOADS, OTHER_KINDS, all_followers, calls_by_name, nested, rules_up_to, same, serving_rules, some_rings)

OLD = (((1, "old"), (3, "old"), (3, "old"), (0, "old")),)
METHODS = ("append", "flush", "cut", "trim")


class Format(unittest.TestCase):
    def test_headers(self):
        source = random.Random(240)
        for mirrors in (1, 2, 3):
            for rule, slots in itertools.product(serving_rules(source, mirrors), (2, 5, 64)):
                rings = some_rings(source, mirrors, slots, 16)
                for slot in range(slots):
                    device = Device(rings)
                    log = format_log(device, rule, slot=slot)
                    lying = [mirror[slot][0] for mirror in rings]
                    marks = [mark for mark in core(rule, mirrors) if not set(rule[mark]) & set(lying)]
                    self.assertTrue(same(view(device), ((slot, marks[0]), rings, ((),) * mirrors, 0)))
                    self.assertTrue(same((log.records(), log.payloads(), len(log)), ((), (), 0)))
                    self.assertTrue(same((log.unflushed(), log.capacity()), (0, slots - 1)))
                    self.assertIsInstance(log, Log)

    def test_the_slot_is_0_if_none_is_given(self):
        for rings in (OLD, OLD * 2, OLD * 3):
            device = Device(rings)
            format_log(device, named_rule(4))
            self.assertEqual(device.header()[0], 0)

    def test_the_mark_is_in_the_core(self):
        source = random.Random(241)
        found = 0
        for rule in serving_rules(source, 1):
            marks = core(rule, 1)
            for lies in range(16):
                device = Device((((lies, ""), (0, "")),))
                format_log(device, rule)
                self.assertIn(device.header()[1], marks)
                least = [mark for mark in range(len(rule)) if lies not in rule[mark]][0]
                found += least not in marks
        self.assertGreater(found, 0)

    def test_unflushed_writes_are_flushed(self):
        device = Device(OLD * 2)
        device.write(0, 1, (2, "x"))
        device.write(1, 0, (2, "y"))
        format_log(device, named_rule(3))
        self.assertEqual(device.unflushed(), ((), ()))
        device.crash(((), ()))
        self.assertEqual((device.read(0, 1), device.read(1, 0)), ((2, "x"), (2, "y")))

    def test_rules_that_do_not_serve(self):
        source = random.Random(242)
        refused = 0
        for rule, mirrors in itertools.product(rules_up_to(9, 243, 4), (1, 2, 3)):
            if not serves(rule, mirrors):
                device = Device(some_rings(source, mirrors, 3, 16))
                device.set_header(1, 2)
                device.write(0, 1, (2, "x"))
                for limit in (None, 0):
                    device.allow(limit)
                    before = view(device)
                    with self.assertRaises(NotServing) as caught:
                        format_log(device, rule, slot=2)
                    self.assertIsInstance(caught.exception, MarkError)
                    self.assertTrue(same((view(device), device.is_on()), (before, True)))
                self.assertRaises(PowerLost, device.flush)
                self.assertRaises(NotServing, format_log, device, rule)
                refused += 1
        self.assertGreater(refused, 100)

    def test_the_steps(self):
        device = Device(OLD)
        device.write(0, 1, (2, "x"))
        device.allow(0)
        self.assertRaises(PowerLost, format_log, device, named_rule(2))
        self.assertEqual((device.header(), device.unflushed()), (None, (((1, (2, "x")),),)))
        device.crash(((True,),))
        device.write(0, 2, (2, "y"))
        device.allow(1)
        self.assertRaises(PowerLost, format_log, device, named_rule(2))
        self.assertEqual((device.header(), device.unflushed(), device.read(0, 2)), (None, ((),), (2, "y")))
        device.crash(((),))
        device.allow(2)
        format_log(device, named_rule(2))
        self.assertEqual((device.header(), device.is_on()), ((0, 1), True))

    def test_arguments(self):
        for log in calls_by_name(format_log, {"device": Device(OLD), "rule": named_rule(2), "slot": 2}):
            self.assertEqual(log.records(), ())
        self.assertRaises(TypeError, format_log, Device(OLD), named_rule(2), 2)
        device, rule = Device(OLD), named_rule(2)
        format_log(slot=3, rule=rule, device=device)
        self.assertEqual((device.header(), rule), ((3, 1), named_rule(2)))


class Walks(unittest.TestCase):
    def walk(self, source, rings, rule, count, by_step):
        pair = Pair(self, rings, rule)
        self.assertTrue(pair.run("format", source.randrange(len(rings[0]))))
        names = set()
        for _ in range(count):
            call = some_log_call(source, pair)
            if by_step:
                pair.broken_off(*call)
            self.assertTrue(pair.run(*call))
            # Without a crash each mirror holds the log, and a reader finds it.
            for mirror in range(len(rings)):
                self.assertEqual(records(pair.device, rule, mirror), pair.log.records())
            names.add(call[0])
        return names

    def test_walks_step_by_step(self):
        source = random.Random(250)
        for mirrors in (1, 2, 3):
            for rule, slots in itertools.product(serving_rules(source, mirrors), (2, 3, 5)):
                self.walk(source, some_rings(source, mirrors, slots, 16), rule, 12, True)

    def test_many_laps(self):
        source = random.Random(251)
        for mirrors, slots in itertools.product((1, 2, 3), (2, 3, 4, 7, 64)):
            for rule in serving_rules(source, mirrors)[:3]:
                names = self.walk(source, some_rings(source, mirrors, slots, len(rule)), rule, 80, False)
                self.assertEqual(names, set(METHODS))

    def test_laps_in_full_rings(self):
        source = random.Random(252)
        for mirrors, slots in itertools.product((1, 2, 3), (2, 3, 8, 64)):
            pair = Pair(self, some_rings(source, mirrors, slots, 16), named_rule(mirrors + 1))
            pair.run("format", slots - 1)
            for at in range(slots - 1):
                pair.run("append", "abcdefgh"[:at % 9])
            for at in range(2 * slots):
                pair.run("trim", 1)
                pair.run("append", "abcdefgh"[:at % 9])
            self.assertEqual(len(pair.log), slots - 1)
            self.assertRaises(Full, pair.log.append, "")
            pair.check()

    def test_each_count_for_each_length(self):
        source = random.Random(253)
        for mirrors, slots in itertools.product((1, 2, 3), (2, 4, 6)):
            pair = Pair(self, some_rings(source, mirrors, slots, 16), named_rule(mirrors + 1))
            pair.run("format", 1)
            for length in range(slots):
                for name, count in itertools.product(("cut", "trim"), range(length + 1)):
                    twin = pair.copy()
                    self.assertTrue(twin.run(name, count))
                    self.assertEqual(len(twin.log), length - count)
                    self.assertEqual(twin.log.unflushed(), 0)
                    for _ in range(slots - 1 - len(twin.log)):
                        twin.run("append", "again")
                if length < slots - 1:
                    pair.run("append", "abcdefgh"[:length])


class Appends(unittest.TestCase):
    def test_marks_are_the_choice(self):
        source = random.Random(260)
        for mirrors in (1, 2, 3):
            for rule in serving_rules(source, mirrors):
                device = Device(some_rings(source, mirrors, 8, 16))
                log = format_log(device, rule, slot=6)
                ahead = device.header()[1]
                for at in range(7):
                    slot = (6 + at) % 8
                    lying = tuple(device.read(mirror, (slot + 1) % 8)[0] for mirror in range(mirrors))
                    mark = choice(rule, mirrors, ahead, lying)
                    before = device.unflushed()
                    self.assertIsNone(log.append("new"))
                    added = tuple(writes[len(before[mirror]):] for mirror, writes in enumerate(device.unflushed()))
                    self.assertEqual(added, (((slot, (mark, "new")),),) * mirrors)
                    ahead = mark
                self.assertEqual(log.unflushed(), 7)

    def test_all_payloads(self):
        log = format_log(Device((((0, ""),) * 12,)), named_rule(2))
        words = ["", "a", "z", "az", "abc", "abcd", "abcde", "abcdef", "abcdefg", "abcdefgh"]
        for word in words:
            log.append(word)
        self.assertEqual(log.payloads(), tuple(words))

    def test_mirror_0_is_written_first(self):
        for mirrors in (1, 2, 3):
            for limit in range(mirrors):
                device = Device(OLD * mirrors)
                log = format_log(device, named_rule(4))
                device.allow(limit)
                self.assertRaises(PowerLost, log.append, "x")
                self.assertEqual([len(writes) for writes in device.unflushed()],
                                 [1] * limit + [0] * (mirrors - limit))

    def test_unflushed(self):
        device = Device((((0, ""),) * 20,))
        log = format_log(device, named_rule(2))
        for call, arguments in (("flush", ()), ("cut", (0,)), ("cut", (1,)), ("trim", (0,)), ("trim", (1,))):
            for count in range(1, 3):
                log.append("x")
                self.assertTrue(same(log.unflushed(), count))
            device.flush()
            self.assertEqual(log.unflushed(), 2)
            self.assertRaises(BadCount, log.cut, -1)
            self.assertRaises(BadPayload, log.append, "A")
            self.assertEqual(log.unflushed(), 2)
            getattr(log, call)(*arguments)
            self.assertTrue(same(log.unflushed(), 0))
        log.append("x")
        self.assertEqual(recover(device, named_rule(2)).unflushed(), 0)
        self.assertEqual(format_log(device, named_rule(2)).unflushed(), 0)

    def test_flushed_appends_stay(self):
        device = Device(OLD * 2)
        log = format_log(device, named_rule(3))
        log.append("x")
        log.flush()
        log.append("y")
        device.crash(((False,), (True,)))
        self.assertEqual([payloads(device, named_rule(3), mirror) for mirror in (0, 1)], [("x",), ("x", "y")])

    def test_methods_are_defined_in_the_class_itself(self):
        for name in (*METHODS, "unflushed", "records", "payloads", "__len__", "capacity"):
            self.assertIn(name, vars(Log))

    def test_arguments_by_name(self):
        device = Device(OLD)
        log = format_log(device, named_rule(2))
        for letter in "xyz":
            self.assertIsNone(log.append(payload=letter))
        self.assertIsNone(log.cut(count=1))
        self.assertIsNone(log.trim(count=1))
        self.assertIsNone(log.flush())
        self.assertEqual(log.payloads(), ("y",))
        for name, error in (("cut", BadCount), ("trim", BadCount)):
            with self.assertRaises(error) as caught:
                getattr(log, name)(count=2)
            self.assertEqual(caught.exception.value, 2)


class CutsAndTrims(unittest.TestCase):
    def full(self, mirrors):
        device = Device(OLD * mirrors)
        log = format_log(device, named_rule(4), slot=2)
        for letter in "xyz":
            log.append(letter)
        return device, log

    def test_cutting_all_keeps_the_slot_of_the_header(self):
        for mirrors in (1, 2, 3):
            device, log = self.full(mirrors)
            log.cut(3)
            self.assertEqual((device.header()[0], log.records(), device.unflushed()), (2, (), ((),) * mirrors))
            for mirror in range(mirrors):
                self.assertEqual(device.read(mirror, 2)[1], "x")
                self.assertEqual(records(device, named_rule(4), mirror), ())
            log.append("w")
            self.assertEqual(device.read(0, 2)[1], "w")

    def test_cutting_some_writes_the_last_one_that_is_left(self):
        for mirrors, count in itertools.product((1, 2, 3), (1, 2)):
            device, log = self.full(mirrors)
            before, header = log.records(), device.header()
            log.cut(count)
            left = 3 - count
            self.assertEqual(log.records()[:left - 1], before[:left - 1])
            self.assertEqual(log.payloads(), ("x", "y", "z")[:left])
            self.assertNotEqual(log.records()[left - 1], before[left - 1])
            self.assertEqual((device.header(), device.unflushed()), (header, ((),) * mirrors))
            for mirror in range(mirrors):
                self.assertEqual(device.read(mirror, (2 + left) % 4), before[left])
                self.assertEqual(records(device, named_rule(4), mirror), log.records())

    def test_trimming_sets_the_header_alone(self):
        for mirrors, count in itertools.product((1, 2, 3), (1, 2, 3)):
            device, log = self.full(mirrors)
            before, rings = log.records(), view(device)[1]
            log.trim(count)
            self.assertEqual(view(device), (((2 + count) % 4, before[count - 1][0]), rings, ((),) * mirrors, 0))
            self.assertEqual(log.records(), before[count:])

    def test_counts_of_0_flush_alone(self):
        for name in ("cut", "trim"):
            device, log = self.full(2)
            before, header, rows = view(device)[1], device.header(), log.records()
            device.allow(1)
            self.assertIsNone(getattr(log, name)(0))
            self.assertEqual(view(device), (header, before, ((), ()), 0))
            self.assertEqual((log.records(), log.unflushed()), (rows, 0))
            self.assertRaises(PowerLost, device.flush)

    def test_counts_of_0_for_an_empty_log(self):
        for name in ("cut", "trim"):
            device = Device(OLD)
            log = format_log(device, named_rule(2))
            before = view(device)
            getattr(log, name)(0)
            self.assertEqual((view(device), log.records()), (before, ()))
            with self.assertRaises(BadCount) as caught:
                getattr(log, name)(1)
            self.assertEqual(caught.exception.value, 1)


class Refusals(unittest.TestCase):
    """Stale, then BadPayload, then Full; Stale, then BadCount; then PowerLost."""

    def made(self, mirrors, length, limit):
        device = Device(OLD * mirrors)
        log = format_log(device, named_rule(4))
        for _ in range(length):
            log.append("x")
        device.allow(limit)
        return device, log

    def state(self, device, log):
        return (view(device), device.is_on(), log.records(), log.payloads(), len(log), log.unflushed(), log.capacity())

    def refused(self, device, log, error, name, *arguments):
        kept = copy.deepcopy(arguments)
        before = self.state(device, log)
        with self.assertRaises(error) as caught:
            getattr(log, name)(*arguments)
        self.assertIsInstance(caught.exception, MarkError)
        self.assertTrue(same(arguments, kept))
        self.assertTrue(same(self.state(device, log), before))
        if error in (BadPayload, BadCount):
            self.assertIs(caught.exception.value, arguments[0])
        else:
            self.assertEqual(vars(caught.exception), {})

    def test_payloads(self):
        values = [value for value in (*BAD_PAYLOADS, *OTHER_KINDS) if value != ""]
        self.assertGreater(len(values), 60)
        for mirrors, length, limit in ((1, 0, None), (1, 3, None), (2, 2, 0), (3, 3, 0)):
            device, log = self.made(mirrors, length, limit)
            for value in values:
                self.refused(device, log, BadPayload, "append", value)

    def test_payloads_without_power(self):
        device, log = self.made(1, 3, 0)
        self.assertRaises(PowerLost, device.flush)
        for value in ("A", "abcdefghi", None, True, nested(60)):
            self.refused(device, log, BadPayload, "append", value)
        self.refused(device, log, Full, "append", "x")

    def test_full(self):
        for mirrors, limit in itertools.product((1, 2, 3), (None, 0)):
            device, log = self.made(mirrors, 3, limit)
            for payload in ("", "x", "abcdefgh"):
                self.refused(device, log, Full, "append", payload)
        for slots in (2, 3, 63, 64):
            log = format_log(Device((((0, ""),) * slots,)), named_rule(2))
            for _ in range(slots - 1):
                log.append("x")
            self.assertRaises(Full, log.append, "x")
            log.trim(1)
            log.append("y")
            self.assertRaises(Full, log.append, "x")
            log.cut(1)
            log.append("y")

    def test_counts(self):
        for length, limit in itertools.product(range(4), (None, 0)):
            device, log = self.made(2, length, limit)
            values = [value for value in OTHER_KINDS if type(value) is not int]
            for value in (*values, -1, -10 ** 30, length + 1, length + 2, 10 ** 30, True, False, 1.0, "1"):
                for name in ("cut", "trim"):
                    self.refused(device, log, BadCount, name, value)

    def test_counts_without_power(self):
        device, log = self.made(1, 2, 0)
        self.assertRaises(PowerLost, device.flush)
        for name, value in itertools.product(("cut", "trim"), (-1, 3, None, True, nested(60))):
            self.refused(device, log, BadCount, name, value)
        for call in (("append", "x"), ("flush",), ("cut", 0), ("cut", 1), ("trim", 0), ("trim", 1)):
            device, log = self.made(1, 2, 0)
            self.assertRaises(PowerLost, getattr(log, call[0]), *call[1:])
            self.assertIs(device.is_on(), False)

    def test_stale(self):
        for mirrors, length, power in itertools.product((1, 2, 3), (0, 2, 3), (True, False)):
            device, log = self.made(mirrors, length, None)
            before = (log.records(), log.payloads(), len(log), log.unflushed(), log.capacity())
            device.crash(((False,) * length,) * mirrors)
            if not power:
                device.allow(0)
                self.assertRaises(PowerLost, device.flush)
            for value in ("x", "A", None, nested(60), 0):
                self.refused(device, log, Stale, "append", value)
            for value in (0, 1, length, length + 1, -1, True, None, "0", nested(60)):
                self.refused(device, log, Stale, "cut", value)
                self.refused(device, log, Stale, "trim", value)
            self.refused(device, log, Stale, "flush")
            self.assertTrue(same((log.records(), log.payloads(), len(log), log.unflushed(), log.capacity()), before))

    def test_stale_behind_a_crash_that_keeps_all(self):
        device, log = self.made(1, 2, None)
        device.crash(((True, True),))
        self.refused(device, log, Stale, "append", "x")
        again = recover(device, named_rule(4))
        again.append("y")
        self.refused(device, log, Stale, "flush")
        self.assertEqual(again.payloads(), ("x", "x", "y"))

    def test_a_log_made_behind_a_crash_is_not_stale(self):
        device = Device(OLD)
        for _ in range(3):
            device.crash(((),))
        log = format_log(device, named_rule(2))
        log.append("x")
        log.flush()
        device.crash(((),))
        log = recover(device, named_rule(2))
        for call in (("append", "y"), ("flush",), ("cut", 1), ("trim", 1)):
            getattr(log, call[0])(*call[1:])


class ElderLogs(unittest.TestCase):
    def test_what_may_still_be_asked(self):
        for is_recovered in (False, True):
            device = Device(OLD)
            elder = format_log(device, named_rule(2))
            elder.append("x")
            elder.append("y")
            kept = elder.records()
            log = recover(device, named_rule(2)) if is_recovered else format_log(device, named_rule(2), slot=1)
            log.trim(len(log))
            for letter in "abc":
                log.append(letter)
            self.assertEqual((elder.records(), elder.payloads(), len(elder)), (kept, ("x", "y"), 2))
            self.assertEqual(log.payloads(), ("a", "b", "c"))

    def test_logs_of_two_devices_do_not_influence_each_other(self):
        device = Device(OLD)
        twin = device.clone()
        one, other = format_log(device, named_rule(2)), format_log(twin, named_rule(2))
        one.append("x")
        twin.crash(((),))
        self.assertRaises(Stale, other.append, "y")
        one.append("z")
        self.assertEqual((one.payloads(), other.payloads()), (("x", "z"), ()))

    def test_rules_are_not_changed(self):
        rule = named_rule(2)
        log = format_log(Device(OLD), rule)
        log.append("x")
        log.cut(1)
        self.assertEqual(rule, named_rule(2))

    def test_a_rule_that_lets_all_follow_serves_nothing(self):
        self.assertRaises(NotServing, format_log, Device(OLD), all_followers(4))


if __name__ == "__main__":
    unittest.main()
