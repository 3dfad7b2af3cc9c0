"""Points 1, 2 and 13, as far as shiftroom.seats answers for them."""

import inspect
import unittest

from shiftroom import seats
from shiftroom.errors import NoSeating, NoSize, OtherSize
from shiftroom.seats import back, is_seating, rest, then
from tests.samples import (
    MIXED_RINGS, NOT_SEATINGS, NOT_SIZES, SIXTY_FIGURES, SIZES, every_seating, seatings_of_all_sizes, some_seatings,
)


def is_seat_tuple(answer, size):
    return type(answer) is tuple and len(answer) == size and all(type(seat) is int for seat in answer)


class TestIsSeating(unittest.TestCase):
    def test_every_small_seating(self):
        for row in every_seating(6):
            self.assertIs(is_seating(row), True, row)

    def test_seatings_of_all_sizes(self):
        for row in seatings_of_all_sizes(20) + [(0,), tuple(range(16)), tuple(range(15, -1, -1)), MIXED_RINGS]:
            self.assertIs(is_seating(row), True, row)

    def test_rows_that_are_none(self):
        for row in NOT_SEATINGS:
            self.assertIs(is_seating(row), False, row)

    def test_every_row_of_three_small_numbers(self):
        good = [(0, 1, 2), (0, 2, 1), (1, 0, 2), (1, 2, 0), (2, 0, 1), (2, 1, 0)]
        span = range(-3, 6)
        for row in [(a, b, c) for a in span for b in span for c in span]:
            self.assertIs(is_seating(row), row in good, row)

    def test_one_wrong_number_at_any_place(self):
        for row in seatings_of_all_sizes(3):
            size = len(row)
            for place in range(size):
                for wrong in (size, size + 1, -1, row[place] - size, SIXTY_FIGURES, -SIXTY_FIGURES, row[place - 1]):
                    broken = row[:place] + (wrong,) + row[place + 1:]
                    self.assertIs(is_seating(broken), broken == row, broken)


class TestRest(unittest.TestCase):
    def test_each_size(self):
        for size in SIZES:
            self.assertEqual(rest(size), tuple(range(size)))
            self.assertTrue(is_seat_tuple(rest(size), size))

    def test_edges(self):
        self.assertEqual(rest(1), (0,))
        self.assertEqual(rest(16), (0, 1, 2, 3, 4, 5, 6, 7, 8, 9, 10, 11, 12, 13, 14, 15))

    def test_no_size(self):
        for size in NOT_SIZES:
            with self.subTest(size=size), self.assertRaises(NoSize):
                rest(size)


class TestThen(unittest.TestCase):
    def test_both_orders(self):
        a = (1, 0, 2)
        b = (0, 2, 1)
        self.assertEqual(then(a, b), (2, 0, 1))
        self.assertEqual(then(b, a), (1, 2, 0))

    def test_one_seating_twice(self):
        a = (1, 2, 3, 0)
        self.assertEqual(then(a, a), (2, 3, 0, 1))
        self.assertEqual(then((0,), (0,)), (0,))

    def test_all_sizes_follow_each_seat(self):
        for size in SIZES:
            row = some_seatings(size, 8)
            for a in row:
                for b in row:
                    together = then(a, b)
                    self.assertTrue(is_seat_tuple(together, size))
                    for k in range(size):
                        self.assertEqual(together[k], b[a[k]])

    def test_rest_on_either_side_changes_nothing(self):
        for a in seatings_of_all_sizes(10):
            self.assertEqual(then(a, rest(len(a))), a)
            self.assertEqual(then(rest(len(a)), a), a)

    def test_no_seating_on_either_side(self):
        for wrong in NOT_SEATINGS:
            for right in ((0,), (1, 0), rest(3), rest(16)):
                for a, b in ((wrong, right), (right, wrong)):
                    with self.subTest(a=a, b=b), self.assertRaises(NoSeating):
                        then(a, b)

    def test_no_seating_on_both_sides(self):
        for a in NOT_SEATINGS:
            for b in NOT_SEATINGS:
                with self.subTest(a=a, b=b), self.assertRaises(NoSeating):
                    then(a, b)

    def test_other_size(self):
        for one in SIZES:
            for other in SIZES:
                if one != other:
                    with self.subTest(one=one, other=other), self.assertRaises(OtherSize):
                        then(some_seatings(one, 1)[0], some_seatings(other, 1)[0])


class TestBack(unittest.TestCase):
    def test_told_ones(self):
        self.assertEqual(back((0,)), (0,))
        self.assertEqual(back((1, 2, 0)), (2, 0, 1))
        self.assertEqual(back((1, 0, 3, 2)), (1, 0, 3, 2))

    def test_comes_to_rest_behind_and_ahead(self):
        for a in every_seating(6) + seatings_of_all_sizes(30) + [MIXED_RINGS]:
            way_back = back(a)
            self.assertTrue(is_seat_tuple(way_back, len(a)))
            self.assertEqual(then(a, way_back), rest(len(a)))
            self.assertEqual(then(way_back, a), rest(len(a)))
            self.assertEqual(back(way_back), a)

    def test_no_seating(self):
        for wrong in NOT_SEATINGS:
            with self.subTest(wrong=wrong), self.assertRaises(NoSeating):
                back(wrong)


class TestHandedIn(unittest.TestCase):
    def test_stays_as_it_was(self):
        for a in seatings_of_all_sizes(3):
            kept = tuple(list(a))
            is_seating(a)
            then(a, a)
            back(a)
            self.assertEqual(a, kept)

    def test_arguments_bear_their_names(self):
        told = {"is_seating": ["row"], "rest": ["size"], "then": ["a", "b"], "back": ["a"]}
        for name, arguments in told.items():
            self.assertEqual(list(inspect.signature(getattr(seats, name)).parameters), arguments)


if __name__ == "__main__":
    unittest.main()
