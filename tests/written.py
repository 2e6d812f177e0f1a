"""Point 16 word by word: what the written forms say, told by patterns, to test the package against."""

import re

MARK = "(?:[0-9]|1[0-5])"
RECORD = f"{MARK}:(?:-|[a-z]{{1,8}})"
HEADER = re.compile(f"header (?:-|(?:[0-9]|[1-5][0-9]|6[0-3]) {MARK})")
MIRROR = re.compile(f"mirror(?: {RECORD}){{2,64}}")
WRITE = re.compile(f"write ([0-2]) ([0-9]|[1-5][0-9]|6[0-3]) {RECORD}")
FOLLOWERS = re.compile(f"-|{MARK}(?: {MARK})*")


def is_line_of_rule(line):
    if not FOLLOWERS.fullmatch(line):
        return False
    marks = [] if line == "-" else [int(word) for word in line.split(" ")]
    return marks == sorted(set(marks))


def wrong_line_of_rule(text):
    """Return the line of the BadText for a rule, or None if the text is right."""
    if not isinstance(text, str):
        return 0
    lines = text.split("\n")
    for at, line in enumerate(lines):
        if not is_line_of_rule(line):
            return at
    marks = [int(word) for word in re.findall("[0-9]+", text)]
    return len(lines) if len(lines) > 16 or max(marks, default=0) >= len(lines) else None


def wrong_line_of_record(text):
    if not isinstance(text, str) or not re.fullmatch(RECORD, text.split("\n")[0]):
        return 0
    return 1 if "\n" in text else None


def wrong_line_of_device(text):
    if not isinstance(text, str):
        return 0
    lines = text.split("\n")
    if not HEADER.fullmatch(lines[0]):
        return 0
    # How many records each mirror has, and the mirrors of the writes.
    counts, mirrors = [], []
    for at, line in enumerate(lines[1:], 1):
        write = WRITE.fullmatch(line)
        if MIRROR.fullmatch(line) and not mirrors and len(counts) < 3 and line.count(" ") in (counts or [line.count(" ")]):
            counts.append(line.count(" "))
        elif write and counts and int(write[1]) < len(counts) and int(write[2]) < counts[0] \
                and int(write[1]) >= max(mirrors, default=0):
            mirrors.append(int(write[1]))
        else:
            return at
    if not counts or (lines[0] != "header -" and int(lines[0].split(" ")[1]) >= counts[0]):
        return len(lines)
    return None


def text_of_rule(rule):
    return "\n".join(" ".join(map(str, row)) or "-" for row in rule)


def text_of_record(record):
    return str(record[0]) + ":" + (record[1] or "-")


def text_of_device(head, rings, writes):
    lines = ["header -" if head is None else "header " + str(head[0]) + " " + str(head[1])]
    lines += ["mirror " + " ".join(map(text_of_record, ring)) for ring in rings]
    lines += ["write " + str(mirror) + " " + str(slot) + " " + text_of_record(record)
              for mirror, mine in enumerate(writes) for slot, record in mine]
    return "\n".join(lines)
