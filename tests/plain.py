"""Points 10 to 14 word by word: a device and logs that go through all that was written, to test the package against."""

import copy

import reference


class Lost(Exception):
    """The power is off, or goes off ahead of this step."""


class PlainDevice:
    def __init__(self, rings):
        self.rings = [list(ring) for ring in rings]
        self.slots = len(rings[0])
        self.writes = []
        self.head = None
        self.power = True
        self.limit = None
        self.count = 0

    def step(self):
        if not self.power or self.limit == 0:
            self.power = False
            raise Lost
        self.limit = None if self.limit is None else self.limit - 1

    def read(self, mirror, slot):
        written = [record for place, record in self.writes if place == (mirror, slot)]
        return written[-1] if written else self.rings[mirror][slot]

    def write(self, mirror, slot, record):
        self.step()
        self.writes.append(((mirror, slot), record))

    def flush(self):
        self.step()
        self.keep(self.writes)

    def set_header(self, slot, mark):
        self.step()
        self.head = (slot, mark)

    def keep(self, writes):
        for (mirror, slot), record in writes:
            self.rings[mirror][slot] = record
        self.writes = []

    def unflushed(self):
        return tuple(tuple((place[1], record) for place, record in self.writes if place[0] == mirror)
                     for mirror in range(len(self.rings)))

    def crash(self, kept):
        left = [list(flags) for flags in kept]
        self.keep([(place, record) for place, record in self.writes if left[place[0]].pop(0)])
        self.power, self.limit = True, None
        self.count += 1

    def allow(self, steps):
        if not self.power:
            raise Lost
        self.limit = steps

    def copy(self):
        return copy.deepcopy(self)

    def marks_in(self, slot):
        return tuple(self.read(mirror, slot)[0] for mirror in range(len(self.rings)))

    def view(self):
        """Return all that the methods of a device tell, but for its power."""
        return (self.head, tuple(tuple(self.read(mirror, slot) for slot in range(self.slots))
                                 for mirror in range(len(self.rings))), self.unflushed(), self.count)


def view(device):
    """Return all that the methods of a device of the package tell, but for its power."""
    return (device.header(), tuple(tuple(device.read(mirror, slot) for slot in range(len(device)))
                                   for mirror in range(device.mirrors())), device.unflushed(), device.crashes())


def row(device, rule, mirror):
    """Return the records that the reader of a mirror accepts."""
    slot, mark = device.head
    found = []
    while len(found) < device.slots - 1:
        record = device.read(mirror, (slot + len(found)) % device.slots)
        if mark >= len(rule) or record[0] not in rule[mark]:
            break
        found.append(record)
        mark = record[0]
    return tuple(found)


class PlainLog:
    """A log without its errors. Its methods change the rows behind the last step, so a loss of power leaves them."""

    def __init__(self, device, rule, rows=()):
        self.device = device
        self.rule = rule
        self.rows = tuple(rows)
        self.fresh = 0

    def core(self):
        return reference.core(self.rule, len(self.device.rings))

    def slot(self, at):
        return (self.device.head[0] + at) % self.device.slots

    def choice(self, rows):
        """Return the mark of the record behind these rows."""
        ahead = rows[-1][0] if rows else self.device.head[1]
        lying = self.device.marks_in(self.slot(len(rows) + 1))
        return [mark for mark in self.core() if reference.fits(self.rule, ahead, lying, mark)][0]

    def write(self, at, record):
        for mirror in range(len(self.device.rings)):
            self.device.write(mirror, self.slot(at), record)

    def begin(self, slot):
        lying = self.device.marks_in(slot)
        marks = [mark for mark in self.core() if not set(self.rule[mark]) & set(lying)]
        self.device.set_header(slot, marks[0])

    def append(self, payload):
        record = (self.choice(self.rows), payload)
        self.write(len(self.rows), record)
        self.rows += (record,)
        self.fresh += 1

    def flush(self):
        self.device.flush()
        self.fresh = 0

    def cut(self, count):
        self.device.flush()
        rows = self.rows[:len(self.rows) - count]
        if count > 0 and rows:
            rows = self.renewed(rows)
        elif count > 0:
            self.begin(self.device.head[0])
        self.rows = rows
        self.fresh = 0

    def trim(self, count):
        self.device.flush()
        if count > 0:
            self.device.set_header(self.slot(count), self.rows[count - 1][0])
        self.rows = self.rows[count:]
        self.fresh = 0

    def renewed(self, rows):
        """Write the last of the rows with a new mark, and return the rows with it."""
        record = (self.choice(rows[:-1]), rows[-1][1])
        self.write(len(rows) - 1, record)
        self.device.flush()
        return rows[:-1] + (record,)


def format_log(device, rule, slot=0):
    log = PlainLog(device, rule)
    device.flush()
    log.begin(slot)
    return log


def recover(device, rule):
    device.flush()
    rows = [row(device, rule, mirror) for mirror in range(len(device.rings))]
    longest = [found for found in rows if len(found) == max(map(len, rows))][0]
    log = PlainLog(device, rule, longest)
    if longest and set(device.marks_in(log.slot(len(longest)))) & set(rule[longest[-1][0]]):
        log.rows = log.renewed(longest)
    wrote = False
    for mirror in range(len(device.rings)):
        for at, record in enumerate(log.rows):
            if device.read(mirror, log.slot(at)) != record:
                device.write(mirror, log.slot(at), record)
                wrote = True
    if wrote:
        device.flush()
    return log
