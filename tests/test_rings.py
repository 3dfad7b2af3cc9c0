"""Points 1, 3 and 13, as far as shiftroom.rings answers for them."""

import inspect
import unittest

from shiftroom import rings as module
from shiftroom.errors import NoSeating
from shiftroom.rings import age, even, rings, times
from shiftroom.seats import back, rest, then
from tests.samples import (
    MIXED_RINGS, NOT_SEATINGS, SEVEN_FIVE_FOUR, SIXTY_FIGURES, SIZES, every_seating, seatings_of_all_sizes,
)


def many():
    return every_seating(5) + seatings_of_all_sizes(15) + [MIXED_RINGS, SEVEN_FIVE_FOUR]


def done_step_by_step(a, n):
    step = a if n >= 0 else back(a)
    come_to = rest(len(a))
    for _ in range(abs(n)):
        come_to = then(come_to, step)
    return come_to


def crossings(a):
    return sum(1 for k in range(len(a)) for j in range(k) if a[j] > a[k])


class TestRings(unittest.TestCase):
    def test_rest_has_none(self):
        for size in SIZES:
            self.assertEqual(rings(rest(size)), [])

    def test_told_ones(self):
        self.assertEqual(rings((0,)), [])
        self.assertEqual(rings((1, 0)), [(0, 1)])
        self.assertEqual(rings((1, 2, 0)), [(0, 1, 2)])
        self.assertEqual(rings((2, 0, 1)), [(0, 2, 1)])
        self.assertEqual(rings((0, 3, 2, 1)), [(1, 3)])
        self.assertEqual(rings((3, 2, 1, 0)), [(0, 3), (1, 2)])
        self.assertEqual(rings((4, 3, 0, 1, 2, 5)), [(0, 4, 2), (1, 3)])
        self.assertEqual(rings(tuple(range(1, 16)) + (0,)), [tuple(range(16))])
        self.assertEqual(rings(MIXED_RINGS), [(0, 5, 11, 13, 12, 6, 10, 14), (2, 8, 9), (3, 7, 4)])

    def test_form(self):
        for a in many():
            told = rings(a)
            self.assertIs(type(told), list)
            self.assertEqual([ring[0] for ring in told], sorted(ring[0] for ring in told))
            for ring in told:
                self.assertIs(type(ring), tuple)
                self.assertGreaterEqual(len(ring), 2)
                self.assertEqual(ring[0], min(ring))
                for place, seat in enumerate(ring):
                    self.assertEqual(a[seat], ring[(place + 1) % len(ring)])

    def test_each_moved_seat_stands_just_once(self):
        for a in many():
            told = sorted(seat for ring in rings(a) for seat in ring)
            self.assertEqual(told, [seat for seat in range(len(a)) if a[seat] != seat])

    def test_what_is_handed_out_is_free(self):
        a = (1, 0, 3, 2)
        rings(a).clear()
        self.assertEqual(rings(a), [(0, 1), (2, 3)])


class TestAge(unittest.TestCase):
    def test_told_ones(self):
        for size in SIZES:
            self.assertEqual(age(rest(size)), 1)
            self.assertEqual(age(tuple(range(1, size)) + (0,)), size)
        self.assertEqual(age((1, 0, 3, 2)), 2)
        self.assertEqual(age((1, 0, 3, 4, 2)), 6)
        self.assertEqual(age((1, 0, 3, 4, 5, 2)), 4)
        self.assertEqual(age((1, 2, 3, 0, 5, 6, 7, 8, 9, 4)), 12)
        self.assertEqual(age(SEVEN_FIVE_FOUR), 140)
        self.assertEqual(age(MIXED_RINGS), 24)

    def test_sixteen_seats_with_rings_of_seven_five_and_four(self):
        self.assertEqual([len(ring) for ring in rings(SEVEN_FIVE_FOUR)], [7, 5, 4])

    def test_least_number_that_comes_to_rest(self):
        for a in many():
            count = 1
            come_to = a
            while come_to != rest(len(a)):
                come_to = then(come_to, a)
                count += 1
            self.assertEqual(age(a), count)
            self.assertIs(type(age(a)), int)


class TestEven(unittest.TestCase):
    def test_told_ones(self):
        self.assertIs(even((0,)), True)
        self.assertIs(even(rest(16)), True)
        self.assertIs(even((1, 0)), False)
        self.assertIs(even((1, 2, 0)), True)
        self.assertIs(even((1, 0, 3, 2)), True)
        self.assertIs(even((1, 2, 3, 0)), False)
        self.assertIs(even((1, 0, 3, 4, 2)), False)
        self.assertIs(even(SEVEN_FIVE_FOUR), False)

    def test_as_the_crossings_are(self):
        for a in many():
            self.assertIs(even(a), crossings(a) % 2 == 0)


class TestTimes(unittest.TestCase):
    def test_told_ones(self):
        for a in many():
            self.assertEqual(times(a, 0), rest(len(a)))
            self.assertEqual(times(a, 1), a)
            self.assertEqual(times(a, -1), back(a))
            self.assertEqual(times(a, 2), then(a, a))
            self.assertEqual(times(a, -2), then(back(a), back(a)))

    def test_small_numbers_step_by_step(self):
        for a in every_seating(4) + seatings_of_all_sizes(4) + [MIXED_RINGS, SEVEN_FIVE_FOUR]:
            for n in range(-20, 21):
                come_to = times(a, n)
                self.assertIs(type(come_to), tuple)
                self.assertEqual(come_to, done_step_by_step(a, n))

    def test_great_numbers(self):
        for a in many():
            for n in (SIXTY_FIGURES, SIXTY_FIGURES - 1, 10 ** 59, 10 ** 59 + 7, 10 ** 80):
                left = done_step_by_step(a, n % age(a))
                self.assertEqual(times(a, n), left)
                self.assertEqual(times(a, -n), back(left))

    def test_great_numbers_by_hand(self):
        a = (1, 2, 0, 4, 3)
        # Sixty nines leave nothing by three and one by two.
        self.assertEqual(times(a, SIXTY_FIGURES), (0, 1, 2, 4, 3))
        self.assertEqual(times(a, -SIXTY_FIGURES), (0, 1, 2, 4, 3))
        self.assertEqual(times(a, SIXTY_FIGURES - 1), (2, 0, 1, 3, 4))
        self.assertEqual(times(a, 1 - SIXTY_FIGURES), (1, 2, 0, 3, 4))


class TestRefusals(unittest.TestCase):
    def test_no_seating(self):
        for wrong in NOT_SEATINGS:
            for ask in (rings, age, even):
                with self.subTest(ask=ask, wrong=wrong), self.assertRaises(NoSeating):
                    ask(wrong)
            for n in (0, 1, -1, SIXTY_FIGURES, -SIXTY_FIGURES):
                with self.subTest(n=n, wrong=wrong), self.assertRaises(NoSeating):
                    times(wrong, n)


class TestHandedIn(unittest.TestCase):
    def test_stays_as_it_was(self):
        for a in seatings_of_all_sizes(3):
            kept = tuple(list(a))
            rings(a)
            age(a)
            even(a)
            times(a, 5)
            self.assertEqual(a, kept)

    def test_arguments_bear_their_names(self):
        told = {"rings": ["a"], "age": ["a"], "even": ["a"], "times": ["a", "n"]}
        for name, arguments in told.items():
            self.assertEqual(list(inspect.signature(getattr(module, name)).parameters), arguments)


if __name__ == "__main__":
    unittest.main()
