"""Readers: they find the end of a log by the marks of its records alone."""

from nextmarks.errors import NoHeader
from nextmarks.rules import may_follow


def records(device, rule, mirror):
    """Return the tuple of the records that the reader of the mirror accepts."""
    head = device.header()
    if head is None:
        raise NoHeader()
    first, mark = head
    found = []
    for at in range(len(device) - 1):
        record = device.read(mirror, (first + at) % len(device))
        if not may_follow(rule, mark, record[0]):
            break
        found.append(record)
        mark = record[0]
    return tuple(found)


def payloads(device, rule, mirror):
    """Return the tuple of the payloads of the records that the reader of the mirror accepts."""
    return tuple([payload for mark, payload in records(device, rule, mirror)])


def longest_row(device, rule):
    """Return the records of the reader that accepts most, of several such readers those of the first one."""
    # Of several that are equally long, max takes the first one.
    return max([records(device, rule, mirror) for mirror in range(device.mirrors())], key=len)
