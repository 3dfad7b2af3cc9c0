"""Seatings and rows for the tests: the same ones each time, without chance."""

from itertools import permutations
from math import factorial

SIZES = range(1, 17)
SIXTY_FIGURES = 10 ** 60 - 1
SPREAD = 1000000007

NOT_SIZES = (0, 17, 18, -1, -16, 1000, SIXTY_FIGURES, -SIXTY_FIGURES)

NOT_SEATINGS = (
    (),
    tuple(range(17)),
    tuple(range(18)),
    tuple(range(1000)),
    tuple(range(16, -1, -1)),
    (0,) * 17,
    (0, 0),
    (1, 1),
    (0, 1, 1),
    (2, 0, 2),
    tuple(range(15)) + (14,),
    (1,),
    (1, 2),
    (0, 1, 3),
    (0, 1, 7),
    tuple(range(1, 17)),
    (-1,),
    (0, -1),
    (-1, 0, 1),
    (0, 1, -1),
    (-1, -2, -3),
    (SIXTY_FIGURES,),
    (-SIXTY_FIGURES,),
    (0, SIXTY_FIGURES, 1),
    (0, -SIXTY_FIGURES, 1),
    tuple(range(15)) + (SIXTY_FIGURES,),
    tuple(range(15)) + (-SIXTY_FIGURES,),
)

MIXED_RINGS = (5, 1, 8, 7, 3, 11, 10, 4, 9, 2, 14, 13, 6, 12, 0, 15)
# Rings of seven, five and four: 0 to 6, 7 to 11, 12 to 15, each shuffled within.
SEVEN_FIVE_FOUR = (3, 4, 0, 5, 6, 1, 2, 9, 7, 11, 8, 10, 14, 15, 13, 12)


def every_seating(most_seats):
    found = []
    for size in range(1, most_seats + 1):
        found.extend(permutations(range(size)))
    return found


def seating_of(size, number):
    left = list(range(size))
    row = []
    for k in range(size - 1, -1, -1):
        place, number = divmod(number, factorial(k))
        row.append(left.pop(place))
    return tuple(row)


def some_seatings(size, how_many):
    return [seating_of(size, k * SPREAD % factorial(size)) for k in range(1, how_many + 1)]


def seatings_of_all_sizes(how_many):
    found = []
    for size in SIZES:
        found.extend(some_seatings(size, how_many))
    return found
