"""Point 13: the classes of the refusals."""

import unittest

from shiftroom import errors

REFUSALS = (
    errors.NoSize, errors.NoSeating, errors.OtherSize, errors.NoSeat, errors.NoNumber,
    errors.TooMany, errors.Unreached, errors.TooWide, errors.NotRead,
)


class TestErrors(unittest.TestCase):
    def test_room_error_stands_under_value_error(self):
        self.assertEqual(errors.RoomError.__bases__, (ValueError,))

    def test_each_refusal_stands_under_room_error(self):
        for refusal in REFUSALS:
            with self.subTest(refusal=refusal):
                self.assertEqual(refusal.__bases__, (errors.RoomError,))
                self.assertTrue(issubclass(refusal, ValueError))

    def test_no_refusal_is_another(self):
        for one in REFUSALS:
            for other in REFUSALS:
                with self.subTest(one=one, other=other):
                    self.assertEqual(issubclass(one, other), one is other)

    def test_there_are_nine_by_their_own_names(self):
        self.assertEqual(
            [refusal.__name__ for refusal in REFUSALS],
            ["NoSize", "NoSeating", "OtherSize", "NoSeat", "NoNumber", "TooMany", "Unreached", "TooWide", "NotRead"],
        )
        self.assertEqual(len(set(REFUSALS)), 9)

    def test_each_is_raised_with_words_and_taken_as_any_refusal(self):
        for refusal in REFUSALS + (errors.RoomError,):
            for taken in (refusal, errors.RoomError, ValueError):
                with self.subTest(refusal=refusal, taken=taken):
                    with self.assertRaises(taken):
                        raise refusal("some words")


if __name__ == "__main__":
    unittest.main()
