"""Point 2: the error classes, and the line of the interface for errors.py."""

import unittest

from nextmarks import errors
from samples import OTHER_KINDS

ATTRIBUTES = {
    "Unstoppable": "value", "BadMark": "value", "TooMany": "count", "BadMirrors": "value", "BadPlace": "value",
    "BadRecord": "value", "BadHeader": "value", "BadKept": "value", "PowerLost": None, "NoHeader": None,
    "NotServing": None, "Stale": None, "BadPayload": "value", "Full": None, "BadCount": "value", "BadText": "line",
    "BadLine": "line", "NoLog": None,
}


class Errors(unittest.TestCase):
    def test_mark_error_stands_under_value_error(self):
        self.assertEqual(errors.MarkError.__bases__, (ValueError,))

    def test_each_class_stands_directly_under_mark_error(self):
        for name in ATTRIBUTES:
            with self.subTest(name):
                self.assertEqual(getattr(errors, name).__bases__, (errors.MarkError,))

    def test_there_are_no_other_classes(self):
        classes = {name for name in vars(errors) if isinstance(getattr(errors, name), type)}
        self.assertEqual(classes, {"MarkError", *ATTRIBUTES})

    def test_no_class_catches_another_one(self):
        classes = [getattr(errors, name) for name in ATTRIBUTES]
        for one in classes:
            self.assertEqual([other for other in classes if issubclass(other, one)], [one])

    def test_value_by_position(self):
        for name, attribute in ATTRIBUTES.items():
            for value in OTHER_KINDS:
                if attribute:
                    self.assertIs(getattr(getattr(errors, name)(value), attribute), value)

    def test_value_by_name(self):
        for name, attribute in ATTRIBUTES.items():
            for value in OTHER_KINDS:
                if attribute:
                    self.assertIs(getattr(getattr(errors, name)(**{attribute: value}), attribute), value)

    def test_value_is_there_when_it_is_caught(self):
        for name, attribute in ATTRIBUTES.items():
            arguments = ((0, [1]),) if attribute else ()
            with self.subTest(name), self.assertRaises(errors.MarkError) as caught:
                raise getattr(errors, name)(*arguments)
            if attribute:
                self.assertEqual(getattr(caught.exception, attribute), (0, [1]))

    def test_value_must_be_given_where_one_is_held(self):
        for name, attribute in ATTRIBUTES.items():
            if attribute:
                with self.subTest(name), self.assertRaises(TypeError):
                    getattr(errors, name)()

    def test_errors_without_a_value(self):
        for name, attribute in ATTRIBUTES.items():
            if not attribute:
                with self.subTest(name):
                    self.assertEqual(vars(getattr(errors, name)()), {})

    def test_objects_do_not_share_their_values(self):
        first, second = errors.BadMark(1), errors.BadMark(2)
        self.assertEqual([first.value, second.value], [1, 2])


if __name__ == "__main__":
    unittest.main()
