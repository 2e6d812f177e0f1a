"""Point 17: sessions, and point 3, guarantee (f), as far as it speaks of them."""

import copy
import itertools
import random
import re
import unittest

from nextmarks.devices import Device
from nextmarks.errors import (
    BadCount, BadHeader, BadKept, BadLine, BadText, Full, MarkError, NoHeader, NoLog, NotServing, PowerLost, Stale)
from nextmarks.games import serves
from nextmarks.logs import format_log, recover
from nextmarks.names import named_rule
from nextmarks.readers import payloads
from nextmarks.reading import read_device, read_rule
from nextmarks.session import Session
from nextmarks.showing import show_device, show_rule
from samples import (
    OTHER_KINDS, calls_by_name, nested, rules_up_to, same, serving_rules, some_kept, some_payload, some_rings)

OLD = "header -\nmirror 1:old 3:old 3:old 0:old"
RULE = "0 1\n2 3\n0 1\n2 3"
OTHER_SIGNS = " \n\t-01239abzAZ:/"


def words_of(row):
    return " ".join(payload or "-" for payload in row) or "none"


class Spoken:
    """What a session should answer: patterns for the lines, and a device and logs made by functions."""

    def __init__(self, rule_source, device_source):
        self.rule = read_rule(rule_source)
        self.device = read_device(device_source)
        self.log = None
        mirrors = self.device.mirrors()
        self.form = re.compile(
            "(format|recover|flush|log|rows|marks|show|rule)|append (-|[a-z]{1,8})|(?:cut|trim) (0|[1-9][0-9]{0,2})"
            "|allow (-|0|[1-9][0-9]{0,2})|crash(?: (?:-|[01]+)){%d}" % mirrors)

    def say(self, line):
        if not isinstance(line, str) or not self.form.fullmatch(line):
            raise BadLine(line)
        word, *rest = line.split(" ")
        if word in ("append", "flush", "cut", "trim", "log", "marks") and self.log is None:
            raise NoLog()
        try:
            return self.answer(word, rest)
        except PowerLost:
            self.log = None
            raise

    def answer(self, word, rest):
        told = {
            "log": lambda: words_of(self.log.payloads()),
            "marks": lambda: " ".join(str(mark) for mark, _ in self.log.records()) or "none",
            "rows": lambda: " / ".join(words_of(payloads(self.device, self.rule, mirror))
                                       for mirror in range(self.device.mirrors())),
            "show": lambda: show_device(self.device).replace("\n", " / "),
            "rule": lambda: "serves" if serves(self.rule, self.device.mirrors()) else "fails",
        }
        if word in told:
            return told[word]()
        if word == "format":
            self.log = format_log(self.device, self.rule)
        elif word == "recover":
            self.log = recover(self.device, self.rule)
        elif word == "append":
            self.log.append("" if rest == ["-"] else rest[0])
        elif word == "flush":
            self.log.flush()
        elif word in ("cut", "trim"):
            getattr(self.log, word)(int(rest[0]))
        elif word == "allow":
            self.device.allow(None if rest == ["-"] else int(rest[0]))
        else:
            self.device.crash(tuple(tuple(sign == "1" for sign in part.replace("-", "")) for part in rest))
        return "ok"


def outcome(session, line):
    """Return what a session says to a line: a string, or the error and what it holds."""
    try:
        return session.say(line)
    except MarkError as error:
        return (type(error).__name__, vars(error))


def device_text(source, mirrors, slots, marks, header=None):
    device = Device(some_rings(source, mirrors, slots, marks))
    if header is not None:
        device.set_header(*header)
    for _ in range(source.choice((0, 0, 2, 4))):
        device.write(source.randrange(mirrors), source.randrange(slots), (source.randrange(marks), "un"))
    return show_device(device)


def crash_line(source, device):
    words = ["".join("01"[stays] for stays in kept) or "-" for kept in some_kept(source, device)]
    if source.random() < 0.2:
        at = source.randrange(len(words))
        words[at] = source.choice(("-", "0", "1", "01", words[at] + "1", words[at][1:] or "-", words[at].strip("-") + "0"))
    return " ".join(["crash", *words])


def some_line(source, spoken):
    """Return a line that is right by its form for the most part."""
    lines = ["append " + (some_payload(source) or "-")] * 8
    lines += ["log", "rows", "marks", "show", "rule", "flush", "format"]
    lines += [f"{word} {source.choice((0, 1, 1, 2, 3, 7, 64, 999))}" for word in ("cut", "trim", "trim")]
    lines += [crash_line(source, spoken.device)] * 2
    lines += ["allow " + source.choice(("-", "0", "1", "2", "3", "10", "999"))]
    lines += ["recover"] * 3
    line = source.choice(lines)
    if source.random() < 0.15:
        at = source.randrange(len(line) + 1)
        line = line[:at] + source.choice(("", source.choice(OTHER_SIGNS))) + line[at + source.randrange(2):]
    return line


class Alike(unittest.TestCase):
    """Guarantee (f): sessions beside functions and methods."""

    def check(self, session, spoken, line):
        kept = copy.deepcopy(line)
        expected = outcome(spoken, line)
        found = outcome(session, line)
        self.assertTrue(same(found, expected), (line, found, expected))
        self.assertTrue(same(line, kept))
        for asked in ("show", "log", "marks", "rows"):
            self.assertEqual(outcome(session, asked), outcome(spoken, asked))
        return found

    def walk(self, source, rule, text, count):
        session, spoken = Session(show_rule(rule), text), Spoken(show_rule(rule), text)
        found = []
        for _ in range(count):
            found.append(self.check(session, spoken, some_line(source, spoken)))
            if found[-1][0] == "PowerLost" and source.random() < 0.8:
                self.check(session, spoken, crash_line(source, spoken.device))
                self.check(session, spoken, "recover")
        return found

    def test_rules_that_serve(self):
        source = random.Random(370)
        answers = []
        for mirrors in (1, 2, 3):
            for rule, slots in itertools.product(serving_rules(source, mirrors)[:6], (2, 3, 5, 8)):
                answers.extend(self.walk(source, rule, device_text(source, mirrors, slots, len(rule)), 60))
        errors = {answer[0] for answer in answers if isinstance(answer, tuple)}
        self.assertEqual(errors, {"BadLine", "NoLog", "NoHeader", "BadKept", "BadCount", "Full", "Stale", "PowerLost"})
        self.assertTrue({"ok", "serves", "none"} <= {answer for answer in answers if isinstance(answer, str)})

    def test_rules_that_do_not_serve(self):
        source = random.Random(371)
        answers = []
        for rule in rules_up_to(9, 372, 3):
            mirrors = source.randrange(1, 4)
            if not serves(rule, mirrors):
                for header in (None, (1, source.randrange(16))):
                    answers.extend(self.walk(source, rule, device_text(source, mirrors, 3, 16, header), 20))
        errors = {answer[0] for answer in answers if isinstance(answer, tuple)}
        # Nothing takes a step then, so the power is not lost.
        self.assertEqual(errors, {"BadLine", "NoLog", "NoHeader", "NotServing", "BadKept"})
        self.assertIn("fails", answers)

    def test_devices_with_a_header_and_a_log(self):
        source = random.Random(373)
        for mirrors in (1, 2, 3):
            for rule in serving_rules(source, mirrors)[:4]:
                device = Device(some_rings(source, mirrors, 5, len(rule)))
                log = format_log(device, rule, slot=3)
                for letter in "xyz":
                    log.append(letter)
                for _ in range(4):
                    self.walk(source, rule, show_device(device), 40)

    def test_values_of_any_kind(self):
        session, spoken = Session(RULE, OLD), Spoken(RULE, OLD)
        for line in ("format", "append x"):
            self.check(session, spoken, line)
        for value in (*OTHER_KINDS, nested(60), ["format"], ("format",), {"format": 1}, b"format"):
            self.assertEqual(self.check(session, spoken, value), ("BadLine", {"line": value}))


class Lines(unittest.TestCase):
    def begun(self, *lines, rule=RULE, device=OLD):
        session = Session(rule, device)
        for line in lines:
            self.assertEqual(session.say(line), "ok")
        return session

    def raised(self, session, said, error, **held):
        with self.assertRaises(error) as caught:
            session.say(said)
        self.assertTrue(same(vars(caught.exception), held))

    def test_answers(self):
        session = self.begun("format", "append x", "append -", "flush")
        self.assertEqual(session.say("log"), "x -")
        self.assertEqual(session.say("rows"), "x -")
        self.assertEqual(session.say("marks"), "2 0")
        self.assertEqual(session.say("show"), "header 0 1 / mirror 2:x 0:- 3:old 0:old")
        self.assertEqual(session.say("rule"), "serves")
        self.assertEqual(session.say("append abcdefgh"), "ok")
        self.assertEqual(session.say("show"), "header 0 1 / mirror 2:x 0:- 3:old 0:old / write 0 2 1:abcdefgh")
        self.assertEqual([session.say("trim 1"), session.say("log")], ["ok", "- abcdefgh"])
        self.assertEqual([session.say("cut 1"), session.say("log")], ["ok", "-"])
        self.assertEqual([session.say("cut 1"), session.say("log"), session.say("marks")], ["ok", "none", "none"])
        self.assertEqual(session.say("rows"), "none")
        self.assertEqual([session.say("cut 0"), session.say("trim 0"), session.say("allow -")], ["ok"] * 3)

    def test_several_mirrors(self):
        text = OLD + "\nmirror 2:old 2:old 2:old 2:old\nmirror 0:old 1:old 2:old 3:old"
        session = self.begun("format", "append x", "append y", rule=show_rule(named_rule(4)), device=text)
        self.assertEqual(session.say("rows"), "x y / x y / x y")
        self.assertEqual(session.say("crash 10 11 01"), "ok")
        self.assertEqual(session.say("rows"), "x / x y / none")
        self.assertEqual([session.say("recover"), session.say("rows")], ["ok", "x y / x y / x y"])
        self.assertEqual(session.say("crash - - -"), "ok")

    def test_lines_that_are_none_by_their_form(self):
        one = self.begun("format", "append x", "append y")
        three = self.begun("format", "append x", rule=show_rule(named_rule(4)),
                           device="header -" + "\nmirror 1:a 1:b 1:c" * 3)
        plain_words = ("format", "recover", "flush", "log", "rows", "marks", "show", "rule")
        bad = [word + rest for word in plain_words for rest in (" ", " 0", " -", " x", "\n", "s", "  ")]
        bad += [" " + word for word in plain_words] + [word.upper() for word in plain_words]
        for word in ("append", "cut", "trim", "allow", "crash"):
            bad += [word, word + " ", word + "  0", word + " 0 ", " " + word + " 0", word + "\t0", word + "0", word + "\n0"]
        bad += ["append " + rest for rest in ("A", "abcdefghi", "x y", "x ", "0", "--", "-x", "x-", "x\n", "a1", ":")]
        for word in ("cut", "trim", "allow"):
            bad += [f"{word} {rest}" for rest in ("00", "01", "1000", "9999", "-1", "+1", "1.0", "x", "1 1", "--", "1-",
                                                  "0x1", "9" * 5000, "0" * 5000, "1_0", "007")]
        bad += ["cut -", "trim -", "allow - -", "", " ", "-", "x", "formats", "hold", "append x\nflush", "flush\nflush"]
        bad += ["crash " + rest for rest in ("2", "0-", "-0", "--", "x", "01 ", "0  1", "10\n", "0,1", "- ", "True")]
        for sign in map(chr, range(128)):
            bad += [f"cut 1{sign}"] * (not sign.isdigit()) + [f"append x{sign}"] * (not sign.islower())
            bad += [f"crash {sign} {sign} {sign}", f"crash {sign}"] * (sign not in "01-")
        for session in (one, three):
            for line in bad:
                self.unchanged(session, line)
        for line in ("crash 11 11", "crash - -", "crash 11 11 11"):
            self.unchanged(one, line)
        for line in ("crash 1", "crash 1 1", "crash 1 1 1 1", "crash - -", "crash -", "crash 1  1 1"):
            self.unchanged(three, line)

    def unchanged(self, session, line):
        """Check that the line is none, and that nothing changes."""
        before = [outcome(session, asked) for asked in ("show", "log", "marks", "rows")]
        with self.assertRaises(BadLine) as caught:
            session.say(line)
        self.assertIs(caught.exception.line, line)
        self.assertEqual(before, [outcome(session, asked) for asked in ("show", "log", "marks", "rows")])

    def test_bad_lines_come_ahead_of_all(self):
        fresh = Session(RULE, OLD)
        off = self.begun("format", "allow 0")
        self.raised(off, "flush", PowerLost)
        stale = self.begun("format", "crash -")
        for session in (fresh, off, stale):
            for line in ("append A", "cut 1000", "trim -", "flush 1", "crash 2", "crash - -", "allow 01", "log ", None,
                         nested(60), ["flush"], 0, True, (), {}):
                self.raised(session, line, BadLine, line=line)

    def test_no_log(self):
        lines = ("append x", "append -", "flush", "cut 0", "cut 999", "trim 0", "trim 1", "log", "marks")
        for session in (Session(RULE, OLD), Session("-", OLD), Session(RULE, OLD.replace("header -", "header 1 1"))):
            for line in lines:
                self.raised(session, line, NoLog)
            self.assertEqual(session.say("allow 0"), "ok")
            for line in lines:
                self.raised(session, line, NoLog)
        session = Session(RULE, OLD)
        self.raised(session, "rows", NoHeader)
        self.raised(session, "recover", NoHeader)
        for line in ("show", "rule", "crash -", "allow -", "allow 5", "format"):
            session.say(line)

    def test_errors_of_the_log(self):
        session = self.begun("format", "append x", "append y", "append z")
        self.raised(session, "append w", Full)
        for line in ("cut 4", "trim 4", "cut 999", "trim 100"):
            self.raised(session, line, BadCount, value=int(line.split()[1]))
        self.assertEqual([session.say("allow 0"), session.say("log")], ["ok", "x y z"])
        self.raised(session, "append w", Full)
        self.raised(session, "cut 4", BadCount, value=4)
        self.assertEqual(session.say("crash 111"), "ok")
        for line in ("append w", "flush", "cut 0", "cut 999", "trim 1"):
            self.raised(session, line, Stale)
        self.assertEqual([session.say("log"), session.say("marks")[:1]], ["x y z", "2"])

    def test_rules_that_do_not_serve(self):
        for rule in ("-", "0", "0 1\n0 1", RULE + "\n4"):
            for device in (OLD, OLD + OLD[8:], OLD + 2 * OLD[8:]):
                count = device.count("mirror")
                does_serve = serves(read_rule(rule), count)
                session = Session(rule, device)
                self.assertEqual(session.say("rule"), "serves" if does_serve else "fails")
                if not does_serve:
                    self.raised(session, "format", NotServing)
                    self.raised(session, "recover", NoHeader)
                    self.raised(session, "log", NoLog)
                    session = Session(rule, device.replace("header -", "header 0 0"))
                    self.raised(session, "recover", NotServing)
        session = Session(RULE + "\n4", OLD.replace("header -", "header 2 4"))
        self.raised(session, "recover", BadHeader, value=(2, 4))

    def test_words_of_a_crash(self):
        two = OLD + "\nmirror 1:old 3:old 3:old 0:old"
        for words, kept in (("0 1", ((False,), (True,))), ("- -", ((), ())), ("- 11", ((), (True, True))),
                            ("111 10", ((True,) * 3, (True, False))), ("11 101", ((True, True), (True, False, True))),
                            ("11 " + "01" * 40, ((True, True), (False, True) * 40))):
            session = self.begun("format", "append x", "append y", rule=show_rule(named_rule(3)), device=two)
            before = [session.say(asked) for asked in ("show", "log", "marks", "rows")]
            self.raised(session, "crash " + words, BadKept, value=kept)
            self.assertEqual(before, [session.say(asked) for asked in ("show", "log", "marks", "rows")])
            self.assertEqual(session.say("append z"), "ok")
        session = Session(RULE, OLD)
        self.raised(session, "crash 0", BadKept, value=((False,),))
        self.assertEqual(session.say("crash -"), "ok")

    def test_limits(self):
        session = self.begun("format", "allow 2", "append x", "append y")
        self.raised(session, "append z", PowerLost)
        self.raised(session, "allow 3", PowerLost)
        self.raised(session, "allow -", PowerLost)
        self.assertEqual(session.say("crash 11"), "ok")
        self.assertEqual([session.say("recover"), session.say("allow 1"), session.say("allow -")], ["ok"] * 3)
        self.assertEqual([session.say("append z"), session.say("flush"), session.say("log")], ["ok", "ok", "x y z"])

    def test_power_lost_amid_each_line(self):
        rule, text = show_rule(named_rule(3)), OLD + "\nmirror 2:old 0:old 1:old 2:old"
        for line in ("format", "recover", "append z", "flush", "cut 0", "cut 1", "cut 2", "trim 0", "trim 1"):
            for limit in itertools.count():
                session = self.begun("format", "append x", "append y", f"allow {limit}", rule=rule, device=text)
                if outcome(session, line) == "ok":
                    break
                self.raised(session, "log", NoLog)
                for again in ("marks", "append x", "flush", "cut 0", "trim 9"):
                    self.raised(session, again, NoLog)
                for again in ("format", "recover", "allow -"):
                    self.raised(session, again, PowerLost)
                    self.raised(session, "log", NoLog)
                self.raised(session, "crash", BadLine, line="crash")
                unflushed = [session.say("show").count(f"write {mirror} ") for mirror in (0, 1)]
                session.say("crash " + " ".join("1" * count or "-" for count in unflushed))
                self.raised(session, "log", NoLog)
                self.assertEqual(session.say("recover"), "ok")
                self.assertEqual(session.say("rows"), " / ".join([session.say("log")] * 2))
                self.assertEqual(session.say("flush"), "ok")
            self.assertGreater(limit, 0)

    def test_power_lost_amid_format_and_then_format(self):
        for limit in (0, 1):
            session = self.begun(f"allow {limit}")
            self.raised(session, "format", PowerLost)
            self.raised(session, "log", NoLog)
            self.assertEqual([session.say("crash -"), session.say("format"), session.say("log")], ["ok", "ok", "none"])

    def test_an_elder_log_stays_if_another_error_is_raised(self):
        session = self.begun("format", "append x")
        # Lines alone do not lead there: a rule that serves goes on serving.
        session.device.set_header(0, 15)
        self.raised(session, "recover", BadHeader, value=(0, 15))
        self.assertEqual(session.say("log"), "x")

    def test_an_elder_log_stays_behind_a_crash(self):
        session = self.begun("format", "append x", "append y", "crash 10")
        self.assertEqual([session.say("log"), session.say("rows"), session.say("marks")], ["x y", "x", "2 0"])
        self.raised(session, "append z", Stale)
        self.assertEqual([session.say("recover"), session.say("log")], ["ok", "x"])

    def test_a_new_log_takes_the_place_of_the_elder_one(self):
        session = self.begun("format", "append x", "format")
        self.assertEqual([session.say("log"), session.say("append y"), session.say("log")], ["none", "ok", "y"])


class Sources(unittest.TestCase):
    def bad(self, rule, device, line):
        with self.assertRaises(BadText) as caught:
            Session(rule, device)
        self.assertTrue(same(caught.exception.line, line))

    def test_the_rule_comes_first(self):
        for device in (OLD, "", "x", OLD + "\nx", None, nested(60)):
            self.bad("0 1\n1 0", device, 1)
            self.bad("", device, 0)
            self.bad("0 1\n-\n2\n9", device, 4)
            for value in OTHER_KINDS:
                if not isinstance(value, str):
                    self.bad(value, device, 0)

    def test_then_the_device(self):
        self.bad(RULE, "", 0)
        self.bad(RULE, OLD + "\n", 2)
        self.bad(RULE, OLD + "\nmirror 1:a", 2)
        self.bad(RULE, OLD.replace("header -", "header 4 0"), 2)
        for value in OTHER_KINDS:
            self.bad(RULE, value, 0)

    def test_arguments(self):
        for session in calls_by_name(Session, {"rule_source": RULE, "device_source": OLD}):
            self.assertEqual([session.say(line="format"), session.say(line="show")],
                             ["ok", "header 0 1 / mirror 1:old 3:old 3:old 0:old"])
        with self.assertRaises(BadLine) as caught:
            session.say(line=7)
        self.assertEqual(caught.exception.line, 7)

    def test_methods_are_defined_in_the_class_itself(self):
        for name in ("__init__", "say"):
            self.assertIn(name, vars(Session))

    def test_sessions_do_not_influence_each_other(self):
        one, other = Session(RULE, OLD), Session(RULE, OLD)
        one.say("format")
        one.say("append x")
        self.assertEqual(other.say("show"), "header - / mirror 1:old 3:old 3:old 0:old")
        self.assertRaises(NoLog, other.say, "log")


if __name__ == "__main__":
    unittest.main()
