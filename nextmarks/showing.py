"""Showing: rules, records and devices as strings."""


def show_marks(marks):
    """Return the marks with blanks between."""
    return " ".join([str(mark) for mark in marks])


def show_rule(rule):
    """Return the rule as a string, a line for each mark."""
    return "\n".join([show_marks(followers) if followers else "-" for followers in rule])


def show_payload(payload):
    """Return the payload as a word, which is not empty."""
    return payload if payload else "-"


def show_record(record):
    """Return the record as a word."""
    mark, payload = record
    return f"{mark}:{show_payload(payload)}"


def show_header(head):
    """Return the line for a header, or for none."""
    if head is None:
        return "header -"
    slot, mark = head
    return f"header {slot} {mark}"


def show_ring(ring):
    """Return the line for the durable records of a mirror."""
    return " ".join(["mirror"] + [show_record(record) for record in ring])


def show_device(device):
    """Return the device as a string: its header, its mirrors and its unflushed writes."""
    lines = [show_header(device.header())]
    for ring in device.durable:
        lines.append(show_ring(ring))
    for mirror, writes in enumerate(device.unflushed()):
        for slot, record in writes:
            lines.append(f"write {mirror} {slot} {show_record(record)}")
    return "\n".join(lines)
