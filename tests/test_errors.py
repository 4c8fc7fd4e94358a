import unittest

from commonhour import errors

NAMES = [
    "BadWords", "BadMeeting", "BadOlds", "BadHand", "BadPerson",
    "BadHour", "BadWord", "Unlike", "TooMany",
]


class ErrorsTest(unittest.TestCase):
    def test_hour_error_is_straight_under_value_error(self):
        self.assertEqual(errors.HourError.__bases__, (ValueError,))
        self.assertEqual(errors.HourError.__module__, "commonhour.errors")

    def test_each_class_is_straight_under_hour_error(self):
        for name in NAMES:
            with self.subTest(name):
                refusal = getattr(errors, name)
                self.assertEqual(refusal.__bases__, (errors.HourError,))
                self.assertEqual(refusal.__name__, name)
                self.assertEqual(refusal.__module__, "commonhour.errors")

    def test_no_two_of_them_are_one(self):
        self.assertEqual(len({getattr(errors, name) for name in NAMES}), len(NAMES))

    def test_each_is_caught_as_its_own_class_and_as_those_above(self):
        for name in NAMES:
            refusal = getattr(errors, name)
            for caught in (refusal, errors.HourError, ValueError):
                with self.subTest(name, caught=caught), self.assertRaises(caught):
                    raise refusal("refused")
