import unittest

from boxcover import errors

NAMES = [
    "NoHeap", "NoWays", "NoBox", "NoSpot", "NoNumber", "NoHouses",
    "NoSkyline", "NoName", "NoDeed", "TooMany", "NoText", "NoAsk",
]


class TestErrors(unittest.TestCase):
    def test_box_error_stands_straight_under_value_error(self):
        self.assertEqual(errors.BoxError.__bases__, (ValueError,))

    def test_each_refusal_stands_straight_under_box_error(self):
        for name in NAMES:
            with self.subTest(name):
                refusal = getattr(errors, name)
                self.assertEqual(refusal.__bases__, (errors.BoxError,))
                self.assertEqual(refusal.__name__, name)

    def test_none_stands_under_another(self):
        for one in NAMES:
            for other in NAMES:
                if one != other:
                    self.assertFalse(issubclass(getattr(errors, one), getattr(errors, other)), (one, other))

    def test_each_can_be_raised_and_taken_as_a_box_error(self):
        for name in NAMES:
            with self.assertRaises(errors.BoxError):
                raise getattr(errors, name)("words")


if __name__ == "__main__":
    unittest.main()
