"""Seatings, rows and rooms for the tests: the same ones each time, without chance."""

from itertools import permutations, product
from math import factorial

from shiftroom.room import Room
from shiftroom.seats import rest

SIZES = range(1, 17)
SIXTY_FIGURES = 10 ** 60 - 1
# A prime far above the number of all seatings, so that these lie far apart at every size.
SPREAD = 10 ** 18 + 9

NOT_SIZES = (0, 17, 18, -1, -16, 1000, SIXTY_FIGURES, -SIXTY_FIGURES)

NOT_SEATINGS = (
    (),
    tuple(range(17)),
    tuple(range(18)),
    tuple(range(1000)),
    tuple(range(16, -1, -1)),
    (0,) * 17,
    (0, 0),
    (1, 1),
    (0, 1, 1),
    (2, 0, 2),
    tuple(range(15)) + (14,),
    (1,),
    (1, 2),
    (0, 1, 3),
    (0, 1, 7),
    tuple(range(1, 17)),
    (-1,),
    (0, -1),
    (-1, 0, 1),
    (0, 1, -1),
    (-1, -2, -3),
    (SIXTY_FIGURES,),
    (-SIXTY_FIGURES,),
    (0, SIXTY_FIGURES, 1),
    (0, -SIXTY_FIGURES, 1),
    tuple(range(15)) + (SIXTY_FIGURES,),
    tuple(range(15)) + (-SIXTY_FIGURES,),
)

MIXED_RINGS = (5, 1, 8, 7, 3, 11, 10, 4, 9, 2, 14, 13, 6, 12, 0, 15)
# Rings of seven, five and four: 0 to 6, 7 to 11, 12 to 15, each shuffled within.
SEVEN_FIVE_FOUR = (3, 4, 0, 5, 6, 1, 2, 9, 7, 11, 8, 10, 14, 15, 13, 12)


def every_seating(most_seats):
    found = []
    for size in range(1, most_seats + 1):
        found.extend(permutations(range(size)))
    return found


def seating_of(size, number):
    left = list(range(size))
    row = []
    for k in range(size - 1, -1, -1):
        place, number = divmod(number, factorial(k))
        row.append(left.pop(place))
    return tuple(row)


def some_seatings(size, how_many):
    return [seating_of(size, k * SPREAD % factorial(size)) for k in range(1, how_many + 1)]


def seatings_of_all_sizes(how_many):
    found = []
    for size in SIZES:
        found.extend(some_seatings(size, how_many))
    return found


def seating_by_rings(size, *told):
    row = list(range(size))
    for ring in told:
        for place, seat in enumerate(ring):
            row[seat] = ring[(place + 1) % len(ring)]
    return tuple(row)


def behind(a, b):
    return tuple(b[seat] for seat in a)


def way_back(a):
    return tuple(sorted(range(len(a)), key=lambda seat: a[seat]))


def reached_one_by_one(size, moves):
    """All that rows of the moves and their ways back come to, each one met."""
    steps = list(moves) + [way_back(move) for move in moves]
    met = {tuple(range(size))}
    pending = list(met)
    while pending:
        ahead = pending.pop()
        for step in steps:
            come_to = behind(ahead, step)
            if come_to not in met:
                met.add(come_to)
                pending.append(come_to)
    return met


def some_rows_of_moves(size, length, how_many):
    found = []
    for k in range(1, how_many + 1):
        found.append([seating_of(size, (k * SPREAD * (j + 3) + k * k + j) % factorial(size)) for j in range(length)])
    return found


def small_rooms():
    """Sizes 1 to 5 with no move to three moves: all rows of up to three moves where there are few, else some."""
    found = []
    for size in range(1, 6):
        found.append((size, []))
        for length in (1, 2, 3):
            if factorial(size) ** length <= 600:
                rows = [list(row) for row in product(permutations(range(size)), repeat=length)]
            else:
                rows = some_rows_of_moves(size, length, 60)
            found.extend((size, row) for row in rows)
    return found


def few_small_rooms():
    return small_rooms()[::7]


def room_of(size, moves):
    room = Room(size)
    for move in moves:
        room.put_move(move)
    return room


def round_of(size):
    return tuple(range(1, size)) + (0,)


def swap(size, one, other):
    return seating_by_rings(size, (one, other))


def whole_moves(size):
    return [round_of(size), swap(size, 0, 1)]


def even_moves(size):
    return [seating_by_rings(size, (k, k + 1, k + 2)) for k in range(size - 2)]


# Rooms whose numbers of seatings are well known: size, moves, how many.
MATHIEU_11 = [
    round_of(11),
    seating_by_rings(11, (2, 6, 10, 7), (3, 9, 4, 5)),
]
MATHIEU_12 = [
    seating_by_rings(12, tuple(range(11))),
    seating_by_rings(12, (2, 6, 10, 7), (3, 9, 4, 5)),
    seating_by_rings(12, (0, 11), (1, 10), (2, 5), (3, 7), (4, 8), (6, 9)),
]
LINES_OF_8 = [
    seating_by_rings(8, tuple(range(7))),
    seating_by_rings(8, (1, 2, 4), (3, 6, 5)),
    seating_by_rings(8, (0, 7), (1, 6), (2, 3), (4, 5)),
]
FOUR_FIGURES_OF_2 = [
    tuple(seat ^ 1 for seat in range(16)),
    tuple((seat << 1 | seat >> 3) & 15 for seat in range(16)),
    tuple(seat ^ (seat & 1) << 1 for seat in range(16)),
]
# Two rings of five that may be turned over, and one that may be stretched too: 10 * 10 * 20.
JUST_2000 = [
    seating_by_rings(15, (0, 1, 2, 3, 4)), seating_by_rings(15, (1, 4), (2, 3)),
    seating_by_rings(15, (5, 6, 7, 8, 9)), seating_by_rings(15, (6, 9), (7, 8)),
    seating_by_rings(15, (10, 11, 12, 13, 14)), seating_by_rings(15, (11, 12, 14, 13)),
]
# All of four seats, the even ones of four more, a ring of seven: 24 * 12 * 7.
JUST_2016 = [
    seating_by_rings(15, (0, 1, 2, 3)), seating_by_rings(15, (0, 1)),
    seating_by_rings(15, (4, 5, 6)), seating_by_rings(15, (5, 6, 7)),
    seating_by_rings(15, (8, 9, 10, 11, 12, 13, 14)),
]
# Four blocks of four seats, whatever within each, and the blocks changed in any way.
BLOCKS_OF_FOUR = [
    seating_by_rings(16, (0, 1, 2, 3)), seating_by_rings(16, (0, 1)),
    seating_by_rings(16, (0, 4, 8, 12), (1, 5, 9, 13), (2, 6, 10, 14), (3, 7, 11, 15)),
    seating_by_rings(16, (0, 4), (1, 5), (2, 6), (3, 7)),
]
KNOWN_ROOMS = (
    (11, MATHIEU_11, 7920),
    (12, MATHIEU_12, 95040),
    (8, LINES_OF_8, 168),
    (16, FOUR_FIGURES_OF_2, 322560),
    (15, JUST_2000, 2000),
    (15, JUST_2016, 2016),
    (16, BLOCKS_OF_FOUR, 24 ** 4 * 24),
    (16, [round_of(16)], 16),
    (16, [round_of(16), tuple(range(15, -1, -1))], 32),
    (16, [swap(16, 2 * k, 2 * k + 1) for k in range(8)], 256),
    (16, [seating_by_rings(16, (0, 2, 4, 6)), swap(16, 0, 2), swap(16, 9, 15), rest(16)], 48),
    (16, [SEVEN_FIVE_FOUR], 140),
    (16, [], 1),
)


def known_rooms():
    found = list(KNOWN_ROOMS)
    for size in range(6, 17):
        found.append((size, whole_moves(size), factorial(size)))
        found.append((size, even_moves(size), factorial(size) // 2))
    return found


def some_numbers(how_many):
    """The first, the last and some between."""
    wanted = [0, 1, how_many - 2, how_many - 1] + [k * SPREAD % how_many for k in range(1, 12)]
    return sorted({number for number in wanted if 0 <= number < how_many})
