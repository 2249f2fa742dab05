import unittest

from shuntyard import errors

FOUR = ["NoTrack", "NoneWaiting", "TrackEmpty", "NoPlan"]


class Errors(unittest.TestCase):
    def test_any_refusal_is_a_value_error(self):
        self.assertEqual(errors.YardError.__bases__, (ValueError,))

    def test_each_of_the_four_is_under_yard_error(self):
        for name in FOUR:
            with self.subTest(name):
                self.assertTrue(issubclass(getattr(errors, name), errors.YardError))
                self.assertIsNot(getattr(errors, name), errors.YardError)

    def test_none_of_the_four_is_under_another(self):
        for one in FOUR:
            for other in FOUR:
                if one != other:
                    with self.subTest(one=one, other=other):
                        self.assertFalse(issubclass(getattr(errors, one), getattr(errors, other)))

    def test_each_can_be_raised_with_words_and_taken_as_any_refusal(self):
        for name in FOUR:
            with self.subTest(name), self.assertRaises(errors.YardError) as taken:
                raise getattr(errors, name)("some words")
            self.assertEqual(str(taken.exception), "some words")


if __name__ == "__main__":
    unittest.main()
