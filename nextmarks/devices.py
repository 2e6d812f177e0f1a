"""Devices: one to three mirrored rings of records. A crash loses any of the writes that were not flushed."""

from nextmarks.errors import BadHeader, BadKept, BadMirrors, BadPlace, BadRecord, PowerLost
from nextmarks.kinds import is_below
from nextmarks.rules import MOST_MARKS

LETTERS = "abcdefghijklmnopqrstuvwxyz"
MOST_LETTERS = 8
FEWEST_SLOTS = 2
MOST_SLOTS = 64
MOST_MIRRORS = 3


def is_payload(value):
    """Return whether any value is a payload."""
    if not isinstance(value, str) or len(value) > MOST_LETTERS:
        return False
    return all([letter in LETTERS for letter in value])


def is_record(value):
    """Return whether any value is a record."""
    if not isinstance(value, tuple) or len(value) != 2:
        return False
    return is_below(value[0], MOST_MARKS) and is_payload(value[1])


def is_ring(value):
    """Return whether any value is a ring."""
    if not isinstance(value, tuple) or not FEWEST_SLOTS <= len(value) <= MOST_SLOTS:
        return False
    return all([is_record(record) for record in value])


def are_mirrors(value):
    """Return whether any value is a tuple of one to three rings of the same length."""
    if not isinstance(value, tuple) or not 1 <= len(value) <= MOST_MIRRORS:
        return False
    if not all([is_ring(ring) for ring in value]):
        return False
    return all([len(ring) == len(value[0]) for ring in value])


def are_bools(value, count):
    """Return whether any value is a tuple of so many bools."""
    if not isinstance(value, tuple) or len(value) != count:
        return False
    return all([isinstance(kept, bool) for kept in value])


def is_kept(value, writes):
    """Return whether any value says for each of the writes, mirror by mirror, whether a crash keeps it."""
    if not isinstance(value, tuple) or len(value) != len(writes):
        return False
    return all([are_bools(kept, len(mine)) for kept, mine in zip(value, writes)])


def ring_behind(ring, writes, kept):
    """Return the ring behind those of the writes that are kept, done in their order."""
    slots = list(ring)
    for (slot, record), stays in zip(writes, kept):
        if stays:
            slots[slot] = record
    return tuple(slots)


class Device:
    """One to three mirrors, with a header, and with a power that can be lost at any step."""

    def __init__(self, mirrors):
        if not are_mirrors(mirrors):
            raise BadMirrors(mirrors)
        self.head = None
        self.limit = None
        self.power = True
        self.losses = 0
        self.hold(mirrors)

    def hold(self, rings):
        """Hold these rings, durable, with nothing unflushed."""
        self.durable = rings
        self.writes = [[] for ring in rings]
        # What was written last, slot by slot, so that a read need not go through all unflushed writes.
        self.latest = [list(ring) for ring in rings]

    def step(self):
        """Count a step that is about to be done, or lose the power ahead of it."""
        if self.limit is not None and self.limit < 1:
            self.power = False
        if not self.power:
            raise PowerLost()
        if self.limit is not None:
            self.limit -= 1

    def read(self, mirror, slot):
        """Return the record that was written there last, also if it is unflushed."""
        return self.latest[mirror][slot]

    def write(self, mirror, slot, record):
        """Write a record; it is unflushed."""
        if not is_below(mirror, self.mirrors()) or not is_below(slot, len(self)):
            raise BadPlace((mirror, slot))
        if not is_record(record):
            raise BadRecord(record)
        self.step()
        self.writes[mirror].append((slot, record))
        self.latest[mirror][slot] = record

    def flush(self):
        """Make all writes durable."""
        self.step()
        self.hold(tuple([tuple(slots) for slots in self.latest]))

    def header(self):
        """Return (slot, mark), or None if there is no header."""
        return self.head

    def set_header(self, slot, mark):
        """Set the header; it is durable at once."""
        if not is_below(slot, len(self)) or not is_below(mark, MOST_MARKS):
            raise BadHeader((slot, mark))
        self.step()
        self.head = (slot, mark)

    def unflushed(self):
        """Return for each mirror the tuple of its unflushed writes (slot, record), in their order."""
        return tuple([tuple(mine) for mine in self.writes])

    def crash(self, kept):
        """Make the kept writes durable and lose the others; then the power is on, without a limit."""
        if not is_kept(kept, self.writes):
            raise BadKept(kept)
        behind = [ring_behind(ring, mine, stay) for ring, mine, stay in zip(self.durable, self.writes, kept)]
        self.hold(tuple(behind))
        self.limit = None
        self.power = True
        self.losses += 1

    def crashes(self):
        """Return how often the device crashed."""
        return self.losses

    def allow(self, steps):
        """Limit how many further steps are done; None is no limit."""
        if not self.power:
            raise PowerLost()
        self.limit = steps

    def is_on(self):
        """Return whether the power is on."""
        return self.power

    def mirrors(self):
        """Return the number of mirrors."""
        return len(self.durable)

    def __len__(self):
        """Return the number of slots."""
        return len(self.durable[0])

    def clone(self):
        """Return an independent device in the same state."""
        other = Device(self.durable)
        other.writes = [list(mine) for mine in self.writes]
        other.latest = [list(slots) for slots in self.latest]
        other.head = self.head
        other.limit = self.limit
        other.power = self.power
        other.losses = self.losses
        return other

    def __eq__(self, other):
        """Return whether other is a device with the same header, durable records and unflushed writes."""
        return (isinstance(other, Device) and self.head == other.head and self.durable == other.durable
                and self.writes == other.writes)
