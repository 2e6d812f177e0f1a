"""The examples of the document, as they stand there."""

import doctest
import unittest

POINT_4 = """
>>> from nextmarks.rules import is_rule
>>> [is_rule(((0, 1), (0,))), is_rule(((1, 0), (0,)))]
[True, False]

>>> from nextmarks.rules import may_follow
>>> [may_follow(((0, 1), (0,)), 0, 1), may_follow(((0, 1), (0,)), 1, 1), may_follow(((0, 1), (0,)), 0, 9)]
[True, False, False]

>>> from nextmarks.rules import called
>>> called(((0,), (0, 1)), (1, 0))
((0, 1), (1,))

>>> from nextmarks.rules import cut_down
>>> cut_down(((0, 1), (0, 1)), (1,))
((), (1,))
"""

POINT_5 = """
>>> from nextmarks.names import named_rule
>>> named_rule(2)
((0, 1), (2, 3), (0, 1), (2, 3))

>>> from nextmarks.names import named_rule, names_of, shows_names
>>> rule = named_rule(2)
>>> [shows_names(rule, ((0, 0), (0, 1), (1, 0), (1, 1))), shows_names(rule, names_of(rule)), names_of(((0, 1), (0, 1)))]
[True, True, None]

>>> from nextmarks.names import fewest_marks
>>> [fewest_marks(1), fewest_marks(2), fewest_marks(3)]
[4, 9, 16]
"""


class Examples(unittest.TestCase):
    def check(self, point, text, count):
        examples = doctest.DocTestParser().get_doctest(text, {}, point, None, 0)
        told = []
        results = doctest.DocTestRunner().run(examples, out=told.append)
        self.assertEqual(results.failed, 0, "".join(told))
        self.assertEqual(results.attempted, count)

    def test_point_4(self):
        self.check("point 4", POINT_4, 8)

    def test_point_5(self):
        self.check("point 5", POINT_5, 7)


if __name__ == "__main__":
    unittest.main()
