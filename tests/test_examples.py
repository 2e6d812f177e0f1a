"""The examples of the document, as they stand there."""

import doctest
import unittest

POINT_4 = """
>>> from nextmarks.rules import is_rule
>>> [is_rule(((0, 1), (0,))), is_rule(((1, 0), (0,)))]
[True, False]

>>> from nextmarks.rules import may_follow
>>> [may_follow(((0, 1), (0,)), 0, 1), may_follow(((0, 1), (0,)), 1, 1), may_follow(((0, 1), (0,)), 0, 9)]
[True, False, False]

>>> from nextmarks.rules import called
>>> called(((0,), (0, 1)), (1, 0))
((0, 1), (1,))

>>> from nextmarks.rules import cut_down
>>> cut_down(((0, 1), (0, 1)), (1,))
((), (1,))
"""

POINT_5 = """
>>> from nextmarks.names import named_rule
>>> named_rule(2)
((0, 1), (2, 3), (0, 1), (2, 3))

>>> from nextmarks.names import named_rule, names_of, shows_names
>>> rule = named_rule(2)
>>> [shows_names(rule, ((0, 0), (0, 1), (1, 0), (1, 1))), shows_names(rule, names_of(rule)), names_of(((0, 1), (0, 1)))]
[True, True, None]

>>> from nextmarks.names import fewest_marks
>>> [fewest_marks(1), fewest_marks(2), fewest_marks(3)]
[4, 9, 16]
"""

POINT_6 = """
>>> from nextmarks.games import fitting
>>> from nextmarks.names import named_rule
>>> [fitting(named_rule(2), 1, (3,)), fitting(named_rule(2), 0, ()), fitting(named_rule(2), 0, (1, 2))]
[(2,), (0, 1), ()]

>>> from nextmarks.games import core, rounds, serves
>>> from nextmarks.names import named_rule
>>> rule = ((1,), (2,), (0, 1, 2))
>>> [rounds(rule, 1), core(rule, 1), serves(rule, 1), core(named_rule(2), 1), rounds(named_rule(2), 2)]
[((0, 1), (2,)), (), False, (0, 1, 2, 3), ((0, 1, 2, 3),)]

>>> from nextmarks.games import appends_left
>>> rule = ((1,), (2,), (0, 1, 2))
>>> [appends_left(rule, 1, 0), appends_left(rule, 1, 2)]
[0, 1]

>>> from nextmarks.games import choice
>>> from nextmarks.names import named_rule
>>> [choice(named_rule(2), 1, 1, (3,)), choice(named_rule(2), 1, 0, (0,)), choice(named_rule(2), 2, 0, (0,))]
[2, 1, None]
"""

POINT_7 = """
>>> from nextmarks.certificates import certificate, shows_certificate
>>> from nextmarks.names import named_rule
>>> [certificate(named_rule(2), 1), shows_certificate(((0,),), 1, ('fails', ((0, (0,)),))), shows_certificate(((0,),), 1, ('serves', (0,)))]
[('serves', (0, 1, 2, 3)), True, False]
"""

POINT_8 = """
>>> from nextmarks.attackers import Attacker
>>> attacker = Attacker(((0,),), 1, 0)
>>> [attacker.lying(), attacker.is_stopped()]
[(0,), True]
"""

POINT_9 = """
>>> from nextmarks.sight import ends, row_for
>>> rule = ((1,), (2,), (0, 1, 2))
>>> [row_for(rule, 2, ((1,), (2,))), ends(rule, 2, ((0,),)), row_for(rule, 0, ((2,),)), ends(rule, 0, ())]
[None, (0, 1), None, (0,)]

>>> from nextmarks.sight import blocking
>>> from nextmarks.names import named_rule
>>> [blocking(((0,),), 1, 0), blocking(named_rule(2), 1, 0), len(blocking(((1,), (2,), (0, 1, 2)), 1, 2))]
[((0,),), None, 2]

>>> from nextmarks.sight import family, shows_sight
>>> from nextmarks.names import named_rule
>>> [family(((0,),), 1, 0), shows_sight(named_rule(2), 1, 0, family(named_rule(2), 1, 0)), shows_sight(((0,),), 1, 0, ((0,),))]
[None, True, False]
"""


class Examples(unittest.TestCase):
    def check(self, point, text, count):
        examples = doctest.DocTestParser().get_doctest(text, {}, point, None, 0)
        told = []
        results = doctest.DocTestRunner().run(examples, out=told.append)
        self.assertEqual(results.failed, 0, "".join(told))
        self.assertEqual(results.attempted, count)

    def test_point_4(self):
        self.check("point 4", POINT_4, 8)

    def test_point_5(self):
        self.check("point 5", POINT_5, 7)

    def test_point_6(self):
        self.check("point 6", POINT_6, 13)

    def test_point_7(self):
        self.check("point 7", POINT_7, 3)

    def test_point_8(self):
        self.check("point 8", POINT_8, 3)

    def test_point_9(self):
        self.check("point 9", POINT_9, 9)


if __name__ == "__main__":
    unittest.main()
