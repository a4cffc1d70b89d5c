"""The refusals of kinddeeds.errors."""

import unittest

from kinddeeds import errors

NAMES = [
    "NoProgram", "Twice", "NoSuch", "Miscount", "Ring", "Open",
    "Lacks", "NoHouse", "Unfit", "TooGreat", "TooLong", "NoWords",
]


class Errors(unittest.TestCase):
    def test_the_base_stands_under_value_error(self):
        self.assertEqual(errors.DeedsError.__bases__, (ValueError,))

    def test_each_stands_straight_under_the_base(self):
        for name in NAMES:
            with self.subTest(name):
                self.assertEqual(getattr(errors, name).__bases__, (errors.DeedsError,))

    def test_none_stands_under_another(self):
        for name in NAMES:
            for other in NAMES:
                if name != other:
                    self.assertFalse(issubclass(getattr(errors, name), getattr(errors, other)))

    def test_place_is_what_it_was_made_with(self):
        for name in ["DeedsError"] + NAMES:
            for place in [(0, 0), (39, 40), (3, 1), None]:
                with self.subTest(name, place=place):
                    self.assertEqual(getattr(errors, name)(place).place, place)

    def test_place_belongs_to_each_object(self):
        one = errors.Twice((1, 0))
        other = errors.Twice(None)
        self.assertEqual(one.place, (1, 0))
        self.assertIsNone(other.place)

    def test_raised_and_taken_by_the_base(self):
        for name in NAMES:
            with self.assertRaises(errors.DeedsError) as taken:
                raise getattr(errors, name)((2, 5))
            self.assertEqual(taken.exception.place, (2, 5))

    def test_a_place_must_be_told(self):
        for name in ["DeedsError"] + NAMES:
            with self.assertRaises(TypeError):
                getattr(errors, name)()


if __name__ == "__main__":
    unittest.main()
