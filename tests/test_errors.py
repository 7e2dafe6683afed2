import unittest

from grammars import ODD_VALUES, nested
from treestacks import errors

NAMES = {
    "InvalidNumber": "value",
    "InvalidRules": "value",
    "InvalidRule": "value",
    "InvalidTrees": "value",
    "InvalidText": "value",
    "InvalidReading": "value",
    "InvalidRun": "value",
    "InvalidPlaces": "value",
    "InvalidQuestion": "value",
    "InvalidClaim": "value",
    "Endless": "kind",
    "Undefined": "what",
    "NothingToUndo": "word",
}


class TestErrors(unittest.TestCase):
    """[3] of the document."""

    def test_each_keeps_what_it_is_made_with(self):
        for name, attribute in NAMES.items():
            for value in ODD_VALUES:
                with self.subTest(name=name):
                    error = getattr(errors, name)(value)
                    self.assertIs(getattr(error, attribute), value)

    def test_each_takes_its_argument_by_name(self):
        for name, attribute in NAMES.items():
            with self.subTest(name=name):
                error = getattr(errors, name)(**{attribute: "a word"})
                self.assertEqual(getattr(error, attribute), "a word")

    def test_each_takes_just_one_argument(self):
        for name in NAMES:
            with self.subTest(name=name):
                self.assertRaises(TypeError, getattr(errors, name))
                self.assertRaises(TypeError, getattr(errors, name), 1, 2)

    def test_all_stand_under_graft_error_and_under_no_other(self):
        self.assertTrue(issubclass(errors.GraftError, ValueError))
        for name in NAMES:
            for other in NAMES:
                with self.subTest(name=name, other=other):
                    one = getattr(errors, name)
                    self.assertEqual(issubclass(one, getattr(errors, other)), name == other)
                    self.assertEqual(one.__mro__[1:3], (errors.GraftError, ValueError))

    def test_there_are_no_others(self):
        classes = {name for name, value in vars(errors).items() if isinstance(value, type)}
        self.assertEqual(classes, {"GraftError", *NAMES})

    def test_each_raised_is_caught_by_graft_error(self):
        for name, attribute in NAMES.items():
            with self.subTest(name=name):
                with self.assertRaises(errors.GraftError) as caught:
                    raise getattr(errors, name)(7)
                self.assertIs(type(caught.exception), getattr(errors, name))
                self.assertEqual(getattr(caught.exception, attribute), 7)

    def test_each_keeps_a_later_change_of_its_argument(self):
        for name, attribute in NAMES.items():
            value = [1]
            error = getattr(errors, name)(value)
            value.append(2)
            self.assertEqual(getattr(error, attribute), [1, 2])

    def test_each_has_a_message_however_deep_the_value(self):
        for name in NAMES:
            self.assertIsInstance(str(getattr(errors, name)(nested(5000))), str)

    def test_none_is_iterable(self):
        for name in NAMES:
            self.assertRaises(TypeError, iter, getattr(errors, name)((1, 2)))


if __name__ == "__main__":
    unittest.main()
