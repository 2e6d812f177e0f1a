"""Point 3, guarantee (a), and (b) as far as devices show it: every crash at every step, for small rings."""

import copy
import itertools
import random
import unittest

from nextmarks.devices import Device
from nextmarks.errors import PowerLost
from nextmarks.games import core
from nextmarks.logs import format_log, recover
from nextmarks.names import named_rule
from nextmarks.readers import payloads
from plain import view
from samples import serving_rules, some_kept, some_rings


def rows_of(device, rule):
    return [payloads(device, rule, mirror) for mirror in range(device.mirrors())]


def crashed(device):
    """Return a clone of the device behind each crash that it can have, equal ones once."""
    flags = [itertools.product((False, True), repeat=len(writes)) for writes in device.unflushed()]
    found = {}
    for kept in itertools.product(*flags):
        twin = device.clone()
        twin.crash(kept)
        found[view(twin)] = twin
    return list(found.values())


class Node:
    """A log in use, with the logs (their payloads) that a reader may find behind a crash that comes now."""

    def __init__(self, device, rule, log, states, appended=0):
        self.device = device
        self.rule = rule
        self.log = log
        self.states = states
        self.appended = appended

    def key(self):
        return (view(self.device)[:3], self.log.records(), frozenset(self.states))

    def copy(self):
        device, log = copy.deepcopy((self.device, self.log))
        return Node(device, self.rule, log, self.states, self.appended)

    def calls(self):
        count = len(self.log)
        found = [("flush",), ("cut", 0), ("recover",), ("format", 0), ("format", len(self.device) - 1)]
        if count < self.log.capacity():
            found.append(("append", "abcdefghijklmnop"[self.appended]))
        for removed in range(1, count + 1):
            found.extend([("cut", removed), ("trim", removed)])
        return found

    def behind(self, call):
        """Return the payloads of the log behind the call."""
        now = self.log.payloads()
        if call[0] == "append":
            return now + (call[1],)
        if call[0] == "cut":
            return now[:len(now) - call[1]]
        if call[0] == "trim":
            return now[call[1]:]
        return () if call[0] == "format" else now

    def run(self, call):
        if call[0] == "format":
            self.log = format_log(self.device, self.rule, slot=call[1])
        elif call[0] == "recover":
            self.log = recover(self.device, self.rule)
        else:
            getattr(self.log, call[0])(*call[1:])

    def after(self, call):
        """Return the node behind the call."""
        twin = self.copy()
        twin.run(call)
        if call[0] == "append":
            twin.states = self.states | {self.behind(call)}
            twin.appended += 1
        else:
            twin.states = {self.behind(call)}
        return twin

    def found_behind(self, call, steps):
        """Return the logs that may be found if the call is interrupted behind so many steps."""
        if call[0] == "append":
            return self.states | {self.behind(call)}
        # All other calls begin with a flush.
        return {self.log.payloads(), self.behind(call)} if steps > 0 else self.states

    def broken_off(self, call):
        """Return for each step of the call the device on which it was interrupted, and the logs that may be found."""
        found = []
        while True:
            twin = self.copy()
            twin.device.allow(len(found))
            try:
                twin.run(call)
                return found
            except PowerLost:
                found.append((twin.device, self.found_behind(call, len(found))))


class Explorer:
    """Goes through calls, losses of power and crashes, and checks what readers find and what is recovered."""

    def __init__(self, test):
        self.test = test
        self.seen = {}
        self.checked = 0

    def check_rows(self, device, rule, states):
        for row in rows_of(device, rule):
            self.test.assertIn(row, states)
        self.checked += 1

    def recovered(self, device, rule):
        """Return the node behind recover."""
        twin = device.clone()
        longest = max(rows_of(twin, rule), key=len)
        log = recover(twin, rule)
        self.test.assertEqual(log.payloads(), longest)
        self.test.assertEqual(rows_of(twin, rule), [longest] * twin.mirrors())
        self.test.assertEqual(twin.unflushed(), ((),) * twin.mirrors())
        return Node(twin, rule, log, {longest})

    def check_crash(self, device, rule, states, again):
        """Check every crash of the device, and so many interrupted recoveries; return the nodes behind recover."""
        nodes = {}
        for twin in crashed(device):
            key = (view(twin)[:3], frozenset(states), again)
            if key not in self.seen:
                self.check_rows(twin, rule, states)
                self.seen[key] = self.recovered(twin, rule)
                if again > 0:
                    self.check_recover(twin, rule, states, again)
            nodes[self.seen[key].key()] = self.seen[key].copy()
        return list(nodes.values())

    def check_recover(self, device, rule, states, again):
        """Check every crash behind each step of recover."""
        for limit in itertools.count():
            twin = device.clone()
            twin.allow(limit)
            try:
                recover(twin, rule)
                return
            except PowerLost:
                self.check_crash(twin, rule, states, again - 1)

    def explore(self, node, depth, again):
        key = (node.key(), depth)
        if key in self.seen:
            return
        self.seen[key] = True
        self.test.assertEqual(rows_of(node.device, node.rule), [node.log.payloads()] * node.device.mirrors())
        nodes = self.check_crash(node.device, node.rule, node.states, again)
        if depth == 0:
            return
        for call in node.calls():
            for device, states in node.broken_off(call):
                nodes.extend(self.check_crash(device, node.rule, states, again))
            self.explore(node.after(call), depth - 1, again)
        for other in nodes:
            other.appended = node.appended + 1
            self.explore(other, depth - 1, again)


class Crashes(unittest.TestCase):
    def explore(self, source, rule, mirrors, slots, depth, again):
        device = Device(some_rings(source, mirrors, slots, len(rule)))
        explorer = Explorer(self)
        explorer.explore(Node(device, rule, format_log(device, rule), {()}), depth, again)
        return explorer.checked

    def test_one_mirror(self):
        source = random.Random(300)
        for rule in serving_rules(source, 1)[:4]:
            for slots, depth in ((2, 6), (3, 5), (4, 4)):
                self.assertGreater(self.explore(source, rule, 1, slots, depth, 1), 30)

    def test_two_mirrors(self):
        source = random.Random(301)
        for rule in serving_rules(source, 2)[:2]:
            for slots, depth in ((2, 5), (3, 4), (4, 4)):
                self.assertGreater(self.explore(source, rule, 2, slots, depth, 2), 100)

    def test_three_mirrors(self):
        source = random.Random(302)
        for slots, depth in ((2, 4), (3, 3), (4, 3)):
            self.assertGreater(self.explore(source, named_rule(4), 3, slots, depth, 1), 100)

    def test_what_recover_returned_is_not_lost(self):
        source = random.Random(304)
        for mirrors in (1, 2, 3):
            rule = named_rule(mirrors + 1)
            device = Device(some_rings(source, mirrors, 6, len(rule)))
            log = format_log(device, rule, slot=4)
            for letter in "ab":
                log.append(letter)
            for first in crashed(device):
                again = recover(first, rule)
                kept = again.payloads()
                again.append("c")
                again.append("d")
                for second in crashed(first):
                    for row in rows_of(second, rule):
                        self.assertIn(row, (kept, kept + ("c",), kept + ("c", "d")))
                    self.assertEqual(recover(second, rule).payloads()[:len(kept)], kept)


class Walks(unittest.TestCase):
    """Longer rings, and some of the calls and crashes only."""

    def interrupted(self, source, explorer, node, call):
        """Return the device and the logs that may be found, if the call is interrupted at some step."""
        device, states = source.choice(node.broken_off(call))
        while source.random() < 0.5:
            device.crash(some_kept(source, device))
            explorer.check_rows(device, node.rule, states)
            device.allow(source.randrange(6))
            try:
                recover(device, node.rule)
                break
            except PowerLost:
                pass
        return device, states

    def walk(self, source, explorer, node, count):
        for _ in range(count):
            self.assertTrue(set(mark for mark, _ in node.log.records()) <= set(core(node.rule, node.device.mirrors())))
            calls = node.calls()
            call = source.choice(calls + [call for call in calls if call[0] == "append"] * 2 * len(calls))
            node.appended = (node.appended + 1) % 16
            if source.random() < 0.3:
                device, states = self.interrupted(source, explorer, node, call)
            else:
                node = node.after(call)
                node.appended %= 16
                device, states = node.device.clone(), node.states
            for _ in range(3):
                twin = device.clone()
                twin.crash(some_kept(source, twin))
                explorer.check_rows(twin, node.rule, states)
            if device != node.device or source.random() < 0.1:
                appended = node.appended
                node = explorer.recovered(twin, node.rule)
                node.appended = appended

    def test_walks(self):
        source = random.Random(303)
        for mirrors in (1, 2, 3):
            rules = serving_rules(source, mirrors)
            for rule, slots in itertools.product(rules[:6], (2, 4, 6, 9)):
                device = Device(some_rings(source, mirrors, slots, len(rule)))
                log = format_log(device, rule, slot=source.randrange(slots))
                self.walk(source, Explorer(self), Node(device, rule, log, {()}), 60)


if __name__ == "__main__":
    unittest.main()
