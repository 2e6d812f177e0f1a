"""Point 16: written forms, and point 3, guarantee (f), as far as it speaks of them."""

import copy
import itertools
import random
import unittest

import written
from nextmarks.devices import Device, is_record
from nextmarks.errors import BadText, MarkError, PowerLost
from nextmarks.logs import format_log, recover
from nextmarks.names import named_rule
from nextmarks.reading import read_device, read_record, read_rule
from nextmarks.rules import is_rule
from nextmarks.showing import show_device, show_record, show_rule
from plain import view
from samples import OTHER_KINDS, all_rules, calls_by_name, nested, rules_up_to, same, some_kept, some_rings

SIGNS = " \n\t\r-:0123456789abczABZ_.,+/hemirowt"
WORDS = ("", " ", "-", "0", "1", "2", "3", "9", "00", "01", "10", "15", "16", "63", "64", "65", "100", "+1", "-1", "1.0",
         "0:a", "15:-", "16:a", "1:", ":a", "1:abcdefgh", "1:abcdefghi", "01:a", "1:A", "1:a:b", "header", "mirror",
         "write", "headers", "Mirror", "writes", "x")


def some_device(source):
    """Return a device, and what it holds: the header, the durable rings, the unflushed writes."""
    mirrors, slots = source.randrange(1, 4), source.choice((2, 2, 3, 3, 4, 11, 64))
    rings = some_rings(source, mirrors, slots, 16)
    device = Device(rings)
    head = source.choice((None, (source.randrange(slots), source.randrange(16))))
    if head is not None:
        device.set_header(*head)
    writes = [[] for _ in rings]
    for _ in range(source.choice((0, 0, 1, 2, 5))):
        mirror, slot = source.randrange(mirrors), source.choice((0, slots - 1, source.randrange(slots)))
        record = (source.randrange(16), source.choice(("", "x", "abcdefgh")))
        device.write(mirror, slot, record)
        writes[mirror].append((slot, record))
    return device, (head, rings, tuple(map(tuple, writes)))


def changed(source, text):
    """Return the text with a line, a word or a sign changed."""
    way = source.randrange(3)
    if way == 2:
        at = source.randrange(len(text) + 1)
        return text[:at] + source.choice(("", source.choice(SIGNS))) + text[at + source.randrange(2):]
    mark = "\n "[way]
    parts = text.split(mark)
    at = source.randrange(len(parts))
    others = parts + (["header -", "header 1 1", "header 63 15", "header 64 0", "mirror 1:a 2:b", "mirror 1:a 2:b 3:c",
                       "write 0 0 1:a", "write 1 1 1:a", "write 2 0 1:a", "-", "0", "0 1", "15", "16", ""]
                      if way == 0 else list(WORDS))
    change = source.randrange(4)
    if change == 0:
        del parts[at]
    elif change == 1:
        parts.insert(at, source.choice(others))
    elif change == 2:
        parts[at] = source.choice(others)
    else:
        other = source.randrange(len(parts))
        parts[at], parts[other] = parts[other], parts[at]
    return mark.join(parts)


class Checks(unittest.TestCase):
    def bad(self, function, source, line):
        kept = copy.deepcopy(source)
        with self.assertRaises(BadText) as caught:
            function(source)
        self.assertTrue(same(caught.exception.line, line), (source, caught.exception.line, line))
        self.assertIsInstance(caught.exception, MarkError)
        self.assertTrue(same(source, kept))

    def check_like(self, function, wrong_line, text):
        """Check that a text is read or refused as the patterns tell; return whether it is right."""
        line = wrong_line(text)
        if line is not None:
            self.bad(function, text, line)
            return False
        function(text)
        return True

    def fuzz(self, source, function, show, wrong_line, texts):
        """Check texts with one or two changes; return how many of them are right, and the lines of the others."""
        right, lines = 0, set()
        for text in texts:
            for _ in range(12):
                other = changed(source, text)
                if source.random() < 0.5:
                    other = changed(source, other)
                if self.check_like(function, wrong_line, other):
                    self.assertEqual(show(function(other)), other)
                    right += 1
                else:
                    lines.add(wrong_line(other))
        return right, lines


class AllForms(Checks):
    def test_values_that_are_no_strings(self):
        for value in (*OTHER_KINDS, nested(60), ["0 1"], ("0 1", "-"), {"0": "1"}, 7, True, None, b"0"):
            for function in (read_rule, read_record, read_device):
                if not isinstance(value, str):
                    self.bad(function, value, 0)

    def test_the_empty_string(self):
        for function in (read_rule, read_record, read_device):
            self.bad(function, "", 0)
            self.bad(function, "\n", 0)
            self.bad(function, " ", 0)

    def test_all_signs_in_place_of_a_digit_or_a_letter(self):
        for sign in map(chr, range(128)):
            if not sign.isdigit():
                self.bad(read_device, f"header {sign} 0\nmirror 1:a 1:a", 0)
                self.bad(read_device, f"header -\nmirror 1:a 1:a\nwrite 0 {sign} 1:a", 2)
                self.bad(read_record, f"{sign}:a", 0)
                self.bad(read_record, f"1{sign}:a", 0)
                if sign not in "-\n":
                    self.bad(read_rule, f"0\n{sign}", 1)
            if not (sign.islower() or sign in "-\n"):
                self.bad(read_record, f"1:{sign}", 0)
                self.bad(read_record, f"1:a{sign}a", 0)

    def test_very_long_words(self):
        for word in ("9" * 5000, "0" * 5000, "1" + "0" * 5000, "a" * 5000, " " * 5000):
            self.bad(read_rule, word, 0)
            self.bad(read_record, word + ":a", 0)
            self.bad(read_record, "1:" + word, 0)
            self.bad(read_device, "header " + word + " 1\nmirror 1:a 1:a", 0)
            self.bad(read_device, "header 0 " + word + "\nmirror 1:a 1:a", 0)
            self.bad(read_device, "header -\nmirror 1:a " + word + ":a", 1)
            self.bad(read_device, "header -\nmirror 1:a 1:a\nwrite " + word + " 0 1:a", 2)
            self.bad(read_device, "header -\nmirror 1:a 1:a\nwrite 0 " + word + " 1:a", 2)

    def test_arguments(self):
        device = Device((((1, "a"), (2, "")),))
        text = "header -\nmirror 1:a 2:-"
        self.assertEqual(calls_by_name(show_rule, {"rule": ((0,), ())}), ["0\n-"])
        self.assertEqual(calls_by_name(show_record, {"record": (15, "")}), ["15:-"])
        self.assertEqual(calls_by_name(show_device, {"device": device}), [text])
        self.assertEqual(calls_by_name(read_rule, {"source": "0\n-"}), [((0,), ())])
        self.assertEqual(calls_by_name(read_record, {"source": "15:-"}), [(15, "")])
        self.assertEqual(calls_by_name(read_device, {"source": text}), [device])


class Rules(Checks):
    def check_both_ways(self, rule):
        text = show_rule(rule)
        self.assertTrue(same(text, written.text_of_rule(rule)))
        self.assertTrue(same(read_rule(text), rule))

    def test_what_is_written_is_read_back(self):
        for rule in itertools.chain(all_rules(1), all_rules(2), all_rules(3), rules_up_to(16, 350, 10)):
            self.check_both_ways(rule)

    def test_some_texts(self):
        self.assertEqual(show_rule(((),)), "-")
        self.assertEqual(show_rule(((0,),)), "0")
        self.assertEqual(read_rule("\n".join(["10 11 15"] * 16)), ((10, 11, 15),) * 16)

    def test_wrong_lines(self):
        for line in ("", " ", "0 ", " 0", "0  1", "00", "01", "1 0", "0 0", "0 1 1", "16", "0 16", "17", "100", "-1",
                     "+1", "--", "- -", "0 -", "- 0", "-0", "a", "0,1", "0 a", "0\t1", "\t0", "0\r", "0 1 ", "0 1  2",
                     "1.0", "0x1", "0 1 2 1", "15 16", "_", "1_0", "O"):
            self.bad(read_rule, line, 0)
            self.bad(read_rule, "0 1\n" + line, 1)
            self.bad(read_rule, line + "\n0 1", 0)
            self.bad(read_rule, "-\n-\n" + line + "\n99", 2)
            self.bad(read_rule, "\n".join(["15"] * 16 + [line]), 16)
            self.bad(read_rule, "\n".join(["15"] * 20 + [line]), 20)

    def test_a_line_feed_at_the_end(self):
        self.bad(read_rule, "0 1\n-\n", 2)
        self.bad(read_rule, "\n0 1\n-", 0)
        self.bad(read_rule, "0 1\n\n-", 1)

    def test_marks_that_the_rule_does_not_have(self):
        for marks in range(1, 17):
            for mark in range(16):
                text = "\n".join(["-"] * (marks - 1) + [str(mark)])
                if mark < marks:
                    self.assertEqual(read_rule(text), ((),) * (marks - 1) + ((mark,),))
                else:
                    self.bad(read_rule, text, marks)

    def test_many_lines(self):
        for count in range(1, 40):
            for line in ("-", "0"):
                text = "\n".join([line] * count)
                if count <= 16:
                    self.assertEqual(len(read_rule(text)), count)
                else:
                    self.bad(read_rule, text, count)

    def test_changes(self):
        source = random.Random(351)
        texts = [written.text_of_rule(rule) for rule in rules_up_to(16, 352, 12)] * 3
        texts += ["\n".join(["0 15"] * count) for count in (15, 16, 17, 18)] * 5
        right, lines = self.fuzz(source, read_rule, show_rule, written.wrong_line_of_rule, texts)
        self.assertGreater(right, 300)
        self.assertTrue(set(range(18)) <= lines)

    def test_what_is_read_is_a_rule(self):
        source = random.Random(353)
        for _ in range(300):
            text = "\n".join(source.choice(("-", "0", "0 1", "1", "2 3", "0 4 5")) for _ in range(source.randrange(1, 8)))
            if self.check_like(read_rule, written.wrong_line_of_rule, text):
                self.assertIs(is_rule(read_rule(text)), True)


class Records(Checks):
    def test_what_is_written_is_read_back(self):
        for mark, payload in itertools.product(range(16), ("", "a", "z", "old", "abcdefgh", "zzzzzzzz")):
            text = show_record((mark, payload))
            self.assertTrue(same(text, written.text_of_record((mark, payload))))
            self.assertTrue(same(read_record(text), (mark, payload)))

    def test_wrong_texts(self):
        for text in ("1", "1:", ":a", ":", "a:1", "1:A", "1:abcdefghi", "16:a", "01:a", "00:a", "-1:a", "+1:a", "1: a",
                     " 1:a", "1:a ", "1 :a", "1:a b", "1:a:b", "1::a", "1:--", "1:-a", "1:a-", "-:a", "-:-", "-", "1;a",
                     "1:0", "1:a1", "\t1:a", "1:a\t", "1:a\r", "100:a", "0x1:a", "1.0:a", "1:`", "1:{", "\n1:a", "\n"):
            self.bad(read_record, text, 0)
            self.bad(read_record, text + "\n1:a", 0)

    def test_more_lines(self):
        for text in ("1:a\n", "1:a\n1:a", "1:a\n\n", "15:-\nx", "0:abcdefgh\n-\n-"):
            self.bad(read_record, text, 1)

    def test_changes(self):
        source = random.Random(354)
        texts = [written.text_of_record(record) for record in some_rings(source, 1, 300, 16)[0]]
        right, lines = self.fuzz(source, read_record, show_record, written.wrong_line_of_record, texts)
        self.assertGreater(right, 200)
        self.assertEqual(lines, {0, 1})
        for text in texts:
            self.assertIs(is_record(read_record(text)), True)


class Devices(Checks):
    MIRRORS = "header -\nmirror 1:a 2:b 3:c\nmirror 4:d 5:e 6:f"

    def check_both_ways(self, device, held):
        text = show_device(device)
        self.assertTrue(same(text, written.text_of_device(*held)))
        again = read_device(text)
        self.assertIsInstance(again, Device)
        self.assertIs(again == device, True)
        self.assertTrue(same(view(again), (*view(device)[:3], 0)))
        self.assertEqual((again.is_on(), again.crashes()), (True, 0))
        for _ in range(9):
            again.flush()
        self.assertEqual(show_device(device), text)
        return text

    def test_what_is_written_is_read_back(self):
        source = random.Random(360)
        texts = [self.check_both_ways(*some_device(source)) for _ in range(300)]
        for part in ("header -", "header 1 1", "\nwrite 2 63 ", "\nwrite 0 0 "):
            self.assertTrue(any(part in text for text in texts), part)

    def test_several_writes_to_one_slot(self):
        rings = (((1, "a"), (2, "b")),) * 2
        device = Device(rings)
        for mirror, payload in ((1, "x"), (0, "y"), (1, "z"), (0, ""), (1, "x")):
            device.write(mirror, 1, (3, payload))
        text = self.check_both_ways(device, (None, rings, (
            ((1, (3, "y")), (1, (3, ""))), ((1, (3, "x")), (1, (3, "z")), (1, (3, "x"))))))
        self.assertEqual(text.split("\n")[3:], [
            "write 0 1 3:y", "write 0 1 3:-", "write 1 1 3:x", "write 1 1 3:z", "write 1 1 3:x"])

    def test_devices_that_crashed_or_are_limited_or_without_power(self):
        source = random.Random(361)
        for _ in range(60):
            device, held = some_device(source)
            twin = device.clone()
            twin.crash(some_kept(source, twin))
            self.check_both_ways(twin, (held[0], view(twin)[1], view(twin)[2]))
            for limit in (3, 0):
                device.allow(limit)
                self.check_both_ways(device, held)
            self.assertRaises(PowerLost, device.flush)
            self.check_both_ways(device, held)

    def test_logs_go_on_where_they_were_written(self):
        source = random.Random(362)
        for mirrors in (1, 2, 3):
            device = Device(some_rings(source, mirrors, 6, 16))
            log = format_log(device, named_rule(4), slot=4)
            for letter in "xyz":
                log.append(letter)
            device.crash(some_kept(source, device))
            again = read_device(show_device(device))
            self.assertEqual(recover(again, named_rule(4)).records(), recover(device, named_rule(4)).records())
            self.assertEqual(again, device)

    def test_headers(self):
        for slot, mark in itertools.product((0, 1, 9, 10, 63), (0, 9, 10, 15)):
            text = f"header {slot} {mark}\nmirror" + " 1:a" * 64
            self.assertEqual(read_device(text).header(), (slot, mark))
        for line in ("", "-", "header", "header ", "header 0", "header 0 ", "header 0 0 0", "header - -", "header -  ",
                     "header  -", " header -", "header - ", "header --", "header - 0", "header 0 -", "Header -",
                     "header 64 0", "header 0 16", "header 00 0", "header 0 00", "header 01 0", "header 0 01",
                     "header -1 0", "header +1 0", "header 0  0", "header 0\t0", "header a 0", "header 0 a", "header-",
                     "mirror 1:a 1:b", "write 0 0 1:a", "header 100 0", "header 0 100", "header 63 16", "headers -"):
            self.bad(read_device, line, 0)
            self.bad(read_device, line + "\nmirror" + " 1:a" * 64, 0)
            self.bad(read_device, line + "\nmirror", 0)

    def test_headers_beyond_the_rings(self):
        for slots in (2, 3, 10, 62, 63, 64):
            for slot in (0, 1, 2, 3, 9, 10, 61, 62, 63):
                text = f"header {slot} 5\nmirror" + " 1:a" * slots
                for more in ("", "\nmirror" + " 2:b" * slots, "\nwrite 0 0 1:a", "\nwrite 0 0 1:a\nwrite 0 1 1:a"):
                    if slot < slots:
                        self.assertEqual(read_device(text + more).header(), (slot, 5))
                    else:
                        self.bad(read_device, text + more, 2 + more.count("\n"))
                    # A line that is wrong where it stands comes ahead of a header that the rings do not have.
                    self.bad(read_device, text + more + "\nx", 2 + more.count("\n"))
                    self.bad(read_device, text + more + "\nx\n" + "write 0 0 1:a", 2 + more.count("\n"))

    def test_no_mirror(self):
        for line in ("header -", "header 0 0", "header 63 15"):
            self.bad(read_device, line, 1)
            self.bad(read_device, line + "\n", 1)
            self.bad(read_device, line + "\nwrite 0 0 1:a", 1)
            self.bad(read_device, line + "\nwrite 0 0 1:a\nmirror 1:a 1:b", 1)

    def test_numbers_of_slots(self):
        for slots in (0, 1, 2, 3, 63, 64, 65, 66):
            text = "header -\nmirror" + " 1:a" * slots
            if 2 <= slots <= 64:
                self.assertEqual(len(read_device(text)), slots)
            else:
                self.bad(read_device, text, 1)

    def test_numbers_of_mirrors(self):
        for mirrors in range(1, 7):
            text = "header -" + "\nmirror 1:a 2:b" * mirrors
            if mirrors <= 3:
                self.assertEqual(read_device(text).mirrors(), mirrors)
            else:
                self.bad(read_device, text, 4)
            self.bad(read_device, text + "\nheader -", min(mirrors, 3) + 1)

    def test_rings_of_other_lengths(self):
        for lengths in itertools.product((2, 3, 64), repeat=3):
            text = "header -" + "".join("\nmirror" + " 1:a" * length for length in lengths)
            unlike = [at for at, length in enumerate(lengths) if length != lengths[0]]
            if unlike:
                self.bad(read_device, text, unlike[0] + 1)
            else:
                self.assertEqual(len(read_device(text)), lengths[0])

    def test_lines_of_mirrors(self):
        for line in ("mirror", "mirror ", "mirror 1:a", "mirror 1:a ", "mirror  1:a 2:b", "mirror 1:a  2:b", " mirror 1:a 2:b",
                     "mirror 1:a 2:b ", "mirror 1:a 16:b", "mirror 1:a 2:", "mirror 1:a 2", "mirror 1:a 2:abcdefghi",
                     "mirror 1:a 02:b", "mirrors 1:a 2:b", "Mirror 1:a 2:b", "mirror1:a 2:b", "mirror - -", "mirror 1:a -",
                     "mirror\t1:a 2:b", "mirror 1:a\t2:b", "mirror 1:a 2:B", "mirror 1:a,2:b", "", "-", "header -", "x"):
            self.bad(read_device, "header -\n" + line, 1)
            self.bad(read_device, "header -\nmirror 1:a 2:b\n" + line, 2)
            self.bad(read_device, "header -\nmirror 1:a 2:b\nmirror 1:a 2:b\n" + line + "\nx", 3)
            self.bad(read_device, "header -\nmirror 1:a 2:b\nwrite 0 0 1:a\n" + line, 3)

    def test_writes(self):
        for mirror, slot in itertools.product((0, 1), (0, 1, 2)):
            for record in ((0, ""), (15, "abcdefgh")):
                device = read_device(f"{self.MIRRORS}\nwrite {mirror} {slot} {written.text_of_record(record)}")
                self.assertTrue(same(device.unflushed()[mirror], ((slot, record),)))
                self.assertEqual(device.read(mirror, slot), record)
        for line in ("write", "write 0 0", "write 0 0 1:a 1:a", "write 2 0 1:a", "write 3 0 1:a", "write 0 3 1:a",
                     "write 0 64 1:a", "write -1 0 1:a", "write 0 -1 1:a", "write 00 0 1:a", "write 0 00 1:a",
                     "write 01 0 1:a", "write 0 01 1:a", "write 0 0 16:a", "write 0 0 1:", "write 0 0 1", "write 0 0 -",
                     "write 0 0 01:a", "write 0 0 1:abcdefghi", "write  0 0 1:a", "write 0  0 1:a", "write 0 0  1:a",
                     " write 0 0 1:a", "write 0 0 1:a ", "Write 0 0 1:a", "writes 0 0 1:a", "write - 0 1:a",
                     "write 0 - 1:a", "write 0\t0 1:a", "write a 0 1:a", "write 0 a 1:a", "", "-", "x", "header -"):
            self.bad(read_device, self.MIRRORS + "\n" + line, 3)
            self.bad(read_device, self.MIRRORS + "\nwrite 0 0 1:a\n" + line, 4)
            self.bad(read_device, self.MIRRORS + "\nwrite 0 0 1:a\n" + line + "\nx", 4)

    def test_the_sequence_of_lines(self):
        write, ring = "\nwrite {} 0 1:a", "\nmirror 7:g 8:h 9:i"
        for mirrors in itertools.product((0, 1, 2), repeat=4):
            text = self.MIRRORS + ring + "".join(write.format(mirror) for mirror in mirrors)
            wrong = [at for at in range(1, 4) if mirrors[at] < mirrors[at - 1]]
            if wrong:
                self.bad(read_device, text, 4 + wrong[0])
            else:
                device = read_device(text)
                self.assertEqual([len(mine) for mine in device.unflushed()], [mirrors.count(at) for at in (0, 1, 2)])
        # A mirror behind a write, a write for a mirror that is not there yet.
        self.bad(read_device, self.MIRRORS + write.format(0) + ring, 4)
        self.bad(read_device, self.MIRRORS + write.format(2) + ring, 3)
        self.bad(read_device, "header -" + write.format(0) + ring, 1)

    def test_a_line_feed_at_the_end(self):
        for text in (self.MIRRORS, self.MIRRORS + "\nwrite 0 0 1:a", "header -\nmirror 1:a 2:b"):
            self.bad(read_device, text + "\n", text.count("\n") + 1)
            self.bad(read_device, "\n" + text, 0)
            self.bad(read_device, text.replace("\nmirror", "\n\nmirror", 1), 1)

    def test_changes(self):
        source = random.Random(363)
        texts = [written.text_of_device(*some_device(source)[1]) for _ in range(500)]
        right, lines = self.fuzz(source, read_device, show_device, written.wrong_line_of_device, texts)
        self.assertGreater(right, 500)
        self.assertTrue(set(range(9)) <= lines)


if __name__ == "__main__":
    unittest.main()
