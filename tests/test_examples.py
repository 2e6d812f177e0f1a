"""The examples of the document, as they stand there."""

import doctest
import unittest

from nextmarks.errors import MarkError

POINT_4 = """
>>> from nextmarks.rules import is_rule
>>> [is_rule(((0, 1), (0,))), is_rule(((1, 0), (0,)))]
[True, False]

>>> from nextmarks.rules import may_follow
>>> [may_follow(((0, 1), (0,)), 0, 1), may_follow(((0, 1), (0,)), 1, 1), may_follow(((0, 1), (0,)), 0, 9)]
[True, False, False]

>>> from nextmarks.rules import called
>>> called(((0,), (0, 1)), (1, 0))
((0, 1), (1,))

>>> from nextmarks.rules import cut_down
>>> cut_down(((0, 1), (0, 1)), (1,))
((), (1,))
"""

POINT_5 = """
>>> from nextmarks.names import named_rule
>>> named_rule(2)
((0, 1), (2, 3), (0, 1), (2, 3))

>>> from nextmarks.names import named_rule, names_of, shows_names
>>> rule = named_rule(2)
>>> [shows_names(rule, ((0, 0), (0, 1), (1, 0), (1, 1))), shows_names(rule, names_of(rule)), names_of(((0, 1), (0, 1)))]
[True, True, None]

>>> from nextmarks.names import fewest_marks
>>> [fewest_marks(1), fewest_marks(2), fewest_marks(3)]
[4, 9, 16]
"""

POINT_6 = """
>>> from nextmarks.games import fitting
>>> from nextmarks.names import named_rule
>>> [fitting(named_rule(2), 1, (3,)), fitting(named_rule(2), 0, ()), fitting(named_rule(2), 0, (1, 2))]
[(2,), (0, 1), ()]

>>> from nextmarks.games import core, rounds, serves
>>> from nextmarks.names import named_rule
>>> rule = ((1,), (2,), (0, 1, 2))
>>> [rounds(rule, 1), core(rule, 1), serves(rule, 1), core(named_rule(2), 1), rounds(named_rule(2), 2)]
[((0, 1), (2,)), (), False, (0, 1, 2, 3), ((0, 1, 2, 3),)]

>>> from nextmarks.games import appends_left
>>> rule = ((1,), (2,), (0, 1, 2))
>>> [appends_left(rule, 1, 0), appends_left(rule, 1, 2)]
[0, 1]

>>> from nextmarks.games import choice
>>> from nextmarks.names import named_rule
>>> [choice(named_rule(2), 1, 1, (3,)), choice(named_rule(2), 1, 0, (0,)), choice(named_rule(2), 2, 0, (0,))]
[2, 1, None]
"""

POINT_7 = """
>>> from nextmarks.certificates import certificate, shows_certificate
>>> from nextmarks.names import named_rule
>>> [certificate(named_rule(2), 1), shows_certificate(((0,),), 1, ('fails', ((0, (0,)),))), shows_certificate(((0,),), 1, ('serves', (0,)))]
[('serves', (0, 1, 2, 3)), True, False]
"""

POINT_8 = """
>>> from nextmarks.attackers import Attacker
>>> attacker = Attacker(((0,),), 1, 0)
>>> [attacker.lying(), attacker.is_stopped()]
[(0,), True]
"""

POINT_9 = """
>>> from nextmarks.sight import ends, row_for
>>> rule = ((1,), (2,), (0, 1, 2))
>>> [row_for(rule, 2, ((1,), (2,))), ends(rule, 2, ((0,),)), row_for(rule, 0, ((2,),)), ends(rule, 0, ())]
[None, (0, 1), None, (0,)]

>>> from nextmarks.sight import blocking
>>> from nextmarks.names import named_rule
>>> [blocking(((0,),), 1, 0), blocking(named_rule(2), 1, 0), len(blocking(((1,), (2,), (0, 1, 2)), 1, 2))]
[((0,),), None, 2]

>>> from nextmarks.sight import family, shows_sight
>>> from nextmarks.names import named_rule
>>> [family(((0,),), 1, 0), shows_sight(named_rule(2), 1, 0, family(named_rule(2), 1, 0)), shows_sight(((0,),), 1, 0, ((0,),))]
[None, True, False]
"""

POINT_10 = """
>>> from nextmarks.devices import is_record
>>> [is_record((3, 'old')), is_record((16, 'old')), is_record([3, 'old'])]
[True, False, False]

>>> from nextmarks.devices import Device
>>> device = Device((((1, 'old'), (3, 'old'), (3, 'old'), (0, 'old')),))
>>> device.write(0, 1, (2, 'x'))
>>> [device.read(0, 1), device.unflushed()]
[(2, 'x'), (((1, (2, 'x')),),)]

>>> from nextmarks.devices import Device
>>> device = Device((((1, 'old'), (3, 'old'), (3, 'old'), (0, 'old')),))
>>> device.write(0, 1, (2, 'x'))
>>> device.crash(((False,),))
>>> [device.read(0, 1), device.unflushed(), device.crashes()]
[(3, 'old'), ((),), 1]

>>> from nextmarks.devices import Device
>>> device = Device((((1, 'old'), (3, 'old'), (3, 'old'), (0, 'old')),))
>>> device.allow(1)
>>> device.write(0, 1, (2, 'x'))
>>> device.write(0, 2, (2, 'y'))
raises PowerLost()
"""

POINT_11 = """
>>> from nextmarks.devices import Device
>>> from nextmarks.readers import payloads, records
>>> from nextmarks.names import named_rule
>>> device = Device((((1, 'old'), (3, 'old'), (3, 'old'), (0, 'old')),))
>>> device.set_header(3, 2)
>>> [records(device, named_rule(2), 0), payloads(device, named_rule(2), 0)]
[((0, 'old'), (1, 'old'), (3, 'old')), ('old', 'old', 'old')]
"""

POINT_12 = """
>>> from nextmarks.devices import Device
>>> from nextmarks.logs import format_log, recover
>>> from nextmarks.names import named_rule
>>> device = Device((((1, 'old'), (3, 'old'), (3, 'old'), (0, 'old')),))
>>> log = format_log(device, named_rule(2))
>>> log.append('x')
>>> log.append('y')
>>> [device.header(), log.records()]
[(0, 1), ((2, 'x'), (0, 'y'))]

>>> from nextmarks.devices import Device
>>> from nextmarks.logs import format_log, recover
>>> from nextmarks.readers import payloads
>>> from nextmarks.names import named_rule
>>> device = Device((((1, 'old'), (3, 'old'), (3, 'old'), (0, 'old')),))
>>> log = format_log(device, named_rule(2))
>>> log.append('x')
>>> log.append('y')
>>> device.crash(((False, True),))
>>> payloads(device, named_rule(2), 0)
()
"""

POINT_13 = """
>>> from nextmarks.devices import Device
>>> from nextmarks.logs import format_log, recover
>>> from nextmarks.names import named_rule
>>> device = Device((((1, 'old'), (3, 'old'), (3, 'old')), ((2, 'old'), (0, 'old'), (1, 'old'))))
>>> rule = named_rule(3)
>>> log = format_log(device, rule)
>>> log.append('x')
>>> log.append('y')
>>> device.crash(((True, False), (False, True)))
>>> again = recover(device, rule)
>>> again.payloads()
('x',)
"""

POINT_14 = """
>>> from nextmarks.devices import Device
>>> from nextmarks.logs import format_log, recover
>>> from nextmarks.names import named_rule
>>> device = Device((((1, 'old'), (3, 'old'), (3, 'old'), (0, 'old')),))
>>> log = format_log(device, named_rule(2))
>>> log.append('x')
>>> log.append('y')
>>> log.cut(1)
>>> [log.records(), device.read(0, 0), device.read(0, 1)]
[((3, 'x'),), (3, 'x'), (0, 'y')]

>>> from nextmarks.devices import Device
>>> from nextmarks.logs import format_log, recover
>>> from nextmarks.names import named_rule
>>> device = Device((((1, 'old'), (3, 'old'), (3, 'old'), (0, 'old')),))
>>> log = format_log(device, named_rule(2))
>>> log.append('x')
>>> log.append('y')
>>> log.trim(1)
>>> [log.payloads(), device.header()]
[('y',), (1, 2)]
"""

POINT_15 = r"""
>>> from nextmarks.devices import Device
>>> from nextmarks.explore import kept_choices
>>> device = Device((((1, 'old'), (3, 'old'), (3, 'old'), (0, 'old')),))
>>> device.write(0, 1, (2, 'x'))
>>> kept_choices(device)
(((False,),), ((True,),))

>>> from nextmarks.devices import Device
>>> from nextmarks.logs import format_log, recover
>>> from nextmarks.explore import crash_rows
>>> from nextmarks.names import named_rule
>>> device = Device((((1, 'old'), (3, 'old'), (3, 'old'), (0, 'old')),))
>>> log = format_log(device, named_rule(2))
>>> log.append('x')
>>> log.append('y')
>>> crash_rows(device, named_rule(2))
(((),), (('x',),), (('x', 'y'),))
"""

POINT_16 = r"""
>>> from nextmarks.devices import Device
>>> from nextmarks.showing import show_device, show_record, show_rule
>>> device = Device((((1, 'old'), (3, 'old'), (3, 'old'), (0, 'old')),))
>>> device.write(0, 1, (2, ''))
>>> [show_rule(((0, 1), ())), show_record((2, '')), show_device(device)]
['0 1\n-', '2:-', 'header -\nmirror 1:old 3:old 3:old 0:old\nwrite 0 1 2:-']

>>> from nextmarks.reading import read_rule
>>> read_rule('0 1\n-')
((0, 1), ())

>>> from nextmarks.reading import read_rule
>>> read_rule('0 1\n1 0')
raises BadText(line=1)
"""

POINT_17 = r"""
>>> from nextmarks.session import Session
>>> session = Session('0 1\n2 3\n0 1\n2 3', 'header -\nmirror 1:old 3:old 3:old 0:old')
>>> session.say('format')
>>> session.say('append x')
>>> session.say('append y')
>>> session.say('crash 10')
>>> session.say('recover')
>>> [session.say('log'), session.say('rows'), session.say('marks')]
['x', 'x', '2']
"""


class Examples(unittest.TestCase):
    def check(self, text, count):
        """Run the examples, which blank lines divide, each on its own; of some lines the document tells no result."""
        checked = 0
        for block in text.split("\n\n"):
            names = {}
            for example in doctest.DocTestParser().get_examples(block):
                if not example.want:
                    exec(example.source, names)
                elif example.want.startswith("raises "):
                    self.assertEqual("raises " + self.raised(example.source, names), example.want.strip())
                else:
                    self.assertEqual(repr(eval(example.source, names)), example.want.strip())
                checked += bool(example.want)
        self.assertEqual(checked, count)

    def raised(self, source, names):
        """Return the error that the line raises, as the document writes it."""
        with self.assertRaises(MarkError) as caught:
            eval(source, names)
        held = ", ".join(f"{name}={value!r}" for name, value in vars(caught.exception).items())
        return f"{type(caught.exception).__name__}({held})"

    def test_point_4(self):
        self.check(POINT_4, 4)

    def test_point_5(self):
        self.check(POINT_5, 3)

    def test_point_6(self):
        self.check(POINT_6, 4)

    def test_point_7(self):
        self.check(POINT_7, 1)

    def test_point_8(self):
        self.check(POINT_8, 1)

    def test_point_9(self):
        self.check(POINT_9, 3)

    def test_point_10(self):
        self.check(POINT_10, 4)

    def test_point_11(self):
        self.check(POINT_11, 1)

    def test_point_12(self):
        self.check(POINT_12, 2)

    def test_point_13(self):
        self.check(POINT_13, 1)

    def test_point_14(self):
        self.check(POINT_14, 2)

    def test_point_15(self):
        self.check(POINT_15, 2)

    def test_point_16(self):
        self.check(POINT_16, 3)

    def test_point_17(self):
        self.check(POINT_17, 1)


if __name__ == "__main__":
    unittest.main()
