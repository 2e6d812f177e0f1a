"""Exploration: all that a crash can leave."""

from nextmarks.errors import TooMany
from nextmarks.readers import payloads

MOST_WRITES = 12


def one_of_each(choices):
    """Return all tuples with one of each of these choices; they ascend if the choices do."""
    found = [()]
    for ways in choices:
        found = [(*row, way) for row in found for way in ways]
    return found


def bool_rows(count):
    """Return all tuples of so many bools, ascending."""
    return one_of_each([(False, True)] * count)


def check_few_writes(device):
    """Raise TooMany if the device has more unflushed writes than are explored."""
    count = sum([len(writes) for writes in device.unflushed()])
    if count > MOST_WRITES:
        raise TooMany(count)


def kept_choices(device):
    """Return the ascending tuple of all values that the crash of the device accepts."""
    check_few_writes(device)
    return tuple(one_of_each([bool_rows(len(writes)) for writes in device.unflushed()]))


def row_left(device, rule, mirror, kept):
    """Return the payloads of the mirror behind a crash that keeps these of its writes, and none of the others."""
    mirrors = [kept if at == mirror else (False,) * len(writes) for at, writes in enumerate(device.unflushed())]
    other = device.clone()
    other.crash(tuple(mirrors))
    return payloads(other, rule, mirror)


def rows_left(device, rule, mirror):
    """Return the ascending list of all payloads of the mirror that a crash can leave."""
    count = len(device.unflushed()[mirror])
    return sorted({row_left(device, rule, mirror, kept) for kept in bool_rows(count)})


def crash_rows(device, rule):
    """Return the ascending tuple of all tuples with the payloads of each mirror that a crash can leave."""
    check_few_writes(device)
    # Each mirror loses its own writes, whatever the others lose: so all its rows go with all those of the others.
    return tuple(one_of_each([rows_left(device, rule, mirror) for mirror in range(device.mirrors())]))
