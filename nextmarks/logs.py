"""Logs: they are written and recovered so that a reader finds their end behind every crash."""

from nextmarks.devices import is_payload
from nextmarks.errors import BadCount, BadHeader, BadPayload, Full, NoHeader, NotServing, Stale
from nextmarks.games import core, is_barred, least_fitting, least_unbarred
from nextmarks.kinds import is_below
from nextmarks.readers import longest_row


def marks_in(device, slot):
    """Return the marks that lie in the slot, one for each mirror."""
    return tuple([device.read(mirror, slot)[0] for mirror in range(device.mirrors())])


class Log:
    """A log on a device; format_log and recover make it."""

    def __init__(self, device, rule, rows):
        self.device = device
        self.rule = rule
        # The core is asked for once, because each choice of a mark needs it.
        self.marks = core(rule, device.mirrors())
        self.begun = device.crashes()
        self.rows = list(rows)
        self.fresh = 0

    def slot_of(self, at):
        """Return the slot of the record with this index."""
        return (self.device.header()[0] + at) % len(self.device)

    def chosen_mark(self, at):
        """Return the mark that the record with this index gets when it is written as the last one."""
        ahead = self.rows[at - 1][0] if at > 0 else self.device.header()[1]
        return least_fitting(self.rule, self.marks, ahead, marks_in(self.device, self.slot_of(at + 1)))

    def write_last(self, at, payload):
        """Write the record with this index as the last one, to every mirror, and return it."""
        record = (self.chosen_mark(at), payload)
        for mirror in range(self.device.mirrors()):
            self.device.write(mirror, self.slot_of(at), record)
        return record

    def renew_last(self):
        """Give the last record a new mark, which nothing that lies behind it may follow."""
        last = len(self.rows) - 1
        self.rows[last] = self.write_last(last, self.rows[last][1])
        self.device.flush()

    def begin_empty(self, slot):
        """Set the header to the slot, with a mark that nothing that lies there may follow."""
        self.device.set_header(slot, least_unbarred(self.rule, self.marks, marks_in(self.device, slot)))

    def is_end_open(self):
        """Return whether in some mirror what lies behind the last record would be taken for a part of the log."""
        if len(self.rows) == 0:
            return False
        return is_barred(self.rule, marks_in(self.device, self.slot_of(len(self.rows))), self.rows[-1][0])

    def copy_rows(self):
        """Write each record to the mirrors that do not hold it, and return whether there were any."""
        wrote = False
        for mirror in range(self.device.mirrors()):
            for at, record in enumerate(self.rows):
                if self.device.read(mirror, self.slot_of(at)) != record:
                    self.device.write(mirror, self.slot_of(at), record)
                    wrote = True
        return wrote

    def check_fresh(self):
        """Raise Stale if the device has crashed since the log was made."""
        if self.device.crashes() != self.begun:
            raise Stale()

    def check_removal(self, count):
        """Raise Stale or BadCount unless so many records can be removed."""
        self.check_fresh()
        if not is_below(count, len(self.rows) + 1):
            raise BadCount(count)

    def append(self, payload):
        """Write a record with this payload behind the last one."""
        self.check_fresh()
        if not is_payload(payload):
            raise BadPayload(payload)
        if len(self.rows) == self.capacity():
            raise Full()
        self.rows.append(self.write_last(len(self.rows), payload))
        self.fresh += 1

    def flush(self):
        """Flush the device."""
        self.check_fresh()
        self.device.flush()
        self.fresh = 0

    def unflushed(self):
        """Return how many records were appended since the log was made or last flushed, cut or trimmed."""
        return self.fresh

    def cut(self, count):
        """Remove so many of the last records."""
        self.check_removal(count)
        self.flush()
        if count == 0:
            return
        self.rows = self.rows[:len(self.rows) - count]
        if len(self.rows) > 0:
            self.renew_last()
        else:
            self.begin_empty(self.slot_of(0))

    def trim(self, count):
        """Remove so many of the first records."""
        self.check_removal(count)
        self.flush()
        if count == 0:
            return
        self.device.set_header(self.slot_of(count), self.rows[count - 1][0])
        self.rows = self.rows[count:]

    def records(self):
        """Return the tuple of the records, the first one first."""
        return tuple(self.rows)

    def payloads(self):
        """Return the tuple of the payloads, the first one first."""
        return tuple([payload for mark, payload in self.rows])

    def __len__(self):
        """Return the number of records."""
        return len(self.rows)

    def capacity(self):
        """Return how many records the log can hold."""
        return len(self.device) - 1


def format_log(device, rule, *, slot=0):
    """Begin an empty log at the slot, and return it."""
    log = Log(device, rule, ())
    if log.marks == ():
        raise NotServing()
    device.flush()
    log.begin_empty(slot)
    return log


def recover(device, rule):
    """Return the log that the device holds, the same one on every mirror."""
    head = device.header()
    if head is None:
        raise NoHeader()
    marks = core(rule, device.mirrors())
    if marks == ():
        raise NotServing()
    if head[1] not in marks:
        raise BadHeader(head)
    device.flush()
    log = Log(device, rule, longest_row(device, rule))
    # The end is closed first, and on every mirror: else a record that is copied could join what lies behind it.
    if log.is_end_open():
        log.renew_last()
    if log.copy_rows():
        device.flush()
    return log
