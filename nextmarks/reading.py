"""Reading: rules, records and devices from the strings that show them."""

from nextmarks.devices import MOST_SLOTS, Device, are_mirrors, is_payload
from nextmarks.errors import BadText
from nextmarks.kinds import is_ascending
from nextmarks.rules import MOST_MARKS, is_rule

DIGITS = "0123456789"
MOST_DIGITS = 3


def number_in(word, limit):
    """Return the number below the limit that the word writes, or None if it writes none."""
    # No limit here has more digits, and Python does not convert words of very many.
    if not 1 <= len(word) <= MOST_DIGITS or not all([sign in DIGITS for sign in word]):
        return None
    if word[0] == "0" and len(word) > 1:
        return None
    number = int(word)
    return number if number < limit else None


def payload_in(word):
    """Return the payload that the word writes, or None if it writes none."""
    if word == "-":
        return ""
    return word if word and is_payload(word) else None


def record_in(word):
    """Return the record that the word writes, or None if it writes none."""
    mark_word, colon, payload_word = word.partition(":")
    mark = number_in(mark_word, MOST_MARKS)
    payload = payload_in(payload_word)
    return None if mark is None or payload is None else (mark, payload)


def followers_in(line):
    """Return the ascending tuple of marks that the line of a rule writes, or None if it writes none."""
    if line == "-":
        return ()
    followers = tuple([number_in(word, MOST_MARKS) for word in line.split(" ")])
    return followers if is_ascending(followers, MOST_MARKS) else None


def header_in(line):
    """Return the (slot, mark) that the line writes, () if it writes that there is no header, or None."""
    words = line.split(" ")
    if words == ["header", "-"]:
        return ()
    if len(words) != 3 or words[0] != "header":
        return None
    slot = number_in(words[1], MOST_SLOTS)
    mark = number_in(words[2], MOST_MARKS)
    return None if slot is None or mark is None else (slot, mark)


def ring_in(line, rings):
    """Return the ring that the line of a mirror writes, or None if none that can stand behind these rings."""
    words = line.split(" ")
    if words[0] != "mirror":
        return None
    ring = tuple([record_in(word) for word in words[1:]])
    return ring if are_mirrors((*rings, ring)) else None


def write_in(line, rings, first):
    """Return the (mirror, slot, record) that the line writes, or None if none of these rings, from the first one on."""
    words = line.split(" ")
    if len(words) != 4 or words[0] != "write" or not rings:
        return None
    mirror = number_in(words[1], len(rings))
    slot = number_in(words[2], len(rings[0]))
    record = record_in(words[3])
    if mirror is None or slot is None or record is None:
        return None
    return (mirror, slot, record) if mirror >= first else None


def lines_in(source):
    """Return the lines of any value that is a string."""
    if not isinstance(source, str):
        raise BadText(0)
    return source.split("\n")


def read_rule(source):
    """Return the rule that any value writes."""
    lines = lines_in(source)
    rows = []
    for at, line in enumerate(lines):
        followers = followers_in(line)
        if followers is None:
            raise BadText(at)
        rows.append(followers)
    rule = tuple(rows)
    if not is_rule(rule):
        raise BadText(len(lines))
    return rule


def read_record(source):
    """Return the record that any value writes."""
    lines = lines_in(source)
    record = record_in(lines[0])
    if record is None:
        raise BadText(0)
    if len(lines) > 1:
        raise BadText(1)
    return record


def read_body(lines):
    """Return the rings and the writes that the lines behind the header write."""
    rings = []
    writes = []
    for at in range(1, len(lines)):
        ring = None if writes else ring_in(lines[at], rings)
        write = write_in(lines[at], rings, writes[-1][0] if writes else 0)
        if ring is not None:
            rings.append(ring)
        elif write is not None:
            writes.append(write)
        else:
            raise BadText(at)
    return rings, writes


def read_device(source):
    """Return the device that any value writes; its power is on."""
    lines = lines_in(source)
    head = header_in(lines[0])
    if head is None:
        raise BadText(0)
    rings, writes = read_body(lines)
    if not rings or (head and head[0] >= len(rings[0])):
        raise BadText(len(lines))
    device = Device(tuple(rings))
    if head:
        device.set_header(head[0], head[1])
    for mirror, slot, record in writes:
        device.write(mirror, slot, record)
    return device
