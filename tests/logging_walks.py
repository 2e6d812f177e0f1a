"""Logs of the package beside plain ones, call by call and step by step."""

import copy

import plain
from nextmarks.devices import Device
from nextmarks.errors import PowerLost
from nextmarks.logs import format_log, recover
from plain import Lost, PlainDevice, view
from samples import same, some_kept, some_payload


class Pair:
    """A device and a log beside a plain device and a plain log, which must go the same way."""

    def __init__(self, test, rings, rule):
        self.test = test
        self.rule = rule
        self.device = Device(rings)
        self.plain = PlainDevice(rings)
        self.log = None
        self.plain_log = None

    def copy(self):
        """Return an independent pair in the same state."""
        twin = copy.copy(self)
        twin.device, twin.plain, twin.log, twin.plain_log = copy.deepcopy(
            (self.device, self.plain, self.log, self.plain_log))
        return twin

    def check(self):
        self.test.assertTrue(same(view(self.device), self.plain.view()))
        self.test.assertIs(self.device.is_on(), self.plain.power)
        if self.log is not None:
            rows = self.plain_log.rows
            self.test.assertTrue(same(self.log.records(), rows))
            self.test.assertTrue(same(self.log.payloads(), tuple(record[1] for record in rows)))
            self.test.assertTrue(same(len(self.log), len(rows)))
            self.test.assertTrue(same(self.log.unflushed(), self.plain_log.fresh))
            self.test.assertTrue(same(self.log.capacity(), self.plain.slots - 1))

    def allow(self, limit):
        self.device.allow(limit)
        self.plain.allow(limit)

    def crash(self, kept):
        self.test.assertIsNone(self.device.crash(kept))
        self.plain.crash(kept)
        self.log = self.plain_log = None
        self.check()

    def run(self, name, *arguments):
        """Make a call on both sides; return whether the power was there. Both sides stop at the same step."""
        try:
            if name == "format":
                made = plain.format_log(self.plain, self.rule, *arguments)
            elif name == "recover":
                made = plain.recover(self.plain, self.rule)
            else:
                made = self.plain_log
                getattr(made, name)(*arguments)
        except Lost:
            self.test.assertRaises(PowerLost, self.run_package, name, *arguments)
            self.log = self.plain_log = None
            self.check()
            return False
        self.log = self.run_package(name, *arguments)
        self.plain_log = made
        self.check()
        return True

    def run_package(self, name, *arguments):
        if name == "format":
            return format_log(self.device, self.rule, slot=arguments[0]) if arguments else format_log(
                self.device, self.rule)
        if name == "recover":
            return recover(self.device, self.rule)
        self.test.assertIsNone(getattr(self.log, name)(*arguments))
        return self.log

    def broken_off(self, name, *arguments):
        """Return pairs in which the call was interrupted, one for each of its steps."""
        found = []
        while True:
            twin = self.copy()
            twin.allow(len(found))
            if twin.run(name, *arguments):
                return found
            found.append(twin)


def some_log_call(source, pair):
    """Return a call of the log that raises no error but PowerLost."""
    count = len(pair.log)
    calls = [("append", some_payload(source))] * (8 if count < pair.log.capacity() else 0)
    calls += [("flush",), ("cut", 0), ("trim", 0), ("cut", count), ("trim", count)]
    calls += [(name, source.randrange(count + 1)) for name in ("cut", "trim", "trim")]
    return source.choice(calls)


def some_crash(source, pair):
    pair.crash(some_kept(source, pair.device))
