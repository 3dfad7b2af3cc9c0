"""Points 1, 5, 9 to 12 and 13, as far as shiftroom.asked answers for them."""

import inspect
import unittest
from itertools import product
from math import factorial

from shiftroom import asked
from shiftroom.asked import dyed, holding, parting, ring_of, within
from shiftroom.errors import NoNumber, NoSeat, OtherSize, TooWide
from shiftroom.room import Room
from shiftroom.seats import rest
from tests.samples import (
    BLOCKS_OF_FOUR, JUST_2000, JUST_2016, MATHIEU_11, MATHIEU_12, SIXTY_FIGURES, SIZES, even_moves, few_small_rooms,
    known_rooms, reached_one_by_one, room_of, round_of, seating_by_rings, small_rooms, some_numbers, some_seatings,
    swap, whole_moves,
)


def not_seats(size):
    return (-1, size, size + 1, -size, -size - 1, 100, SIXTY_FIGURES, -SIXTY_FIGURES)


def answers(room):
    return room.moves(), room.how_many(), room.table(), [room.reaches(a) for a in some_seatings(room.size, 20)]


def rooms_to_ask():
    return small_rooms() + [(size, moves) for size, moves, count in known_rooms()]


def joined_parts(size, pairs):
    """The finest parting in which each of the pairs lies in one part."""
    parts = [{seat} for seat in range(size)]
    for one, other in pairs:
        touched = [part for part in parts if one in part or other in part]
        parts = [part for part in parts if part not in touched] + [set().union(*touched)]
    return sorted(sorted(part) for part in parts)


def finest_parting(size, moves, one, other):
    pairs = {(one, other)}
    while True:
        more = pairs | {(move[p], move[q]) for move in moves for p, q in pairs}
        if more == pairs:
            return joined_parts(size, sorted(pairs))
        pairs = more


def every_parting(size):
    """All partings of so many seats, each as a list of parts."""
    if size == 0:
        return [[]]
    found = []
    for parts in every_parting(size - 1):
        for place in range(len(parts)):
            found.append(parts[:place] + [parts[place] + [size - 1]] + parts[place + 1:])
        found.append(parts + [[size - 1]])
    return found


def keeps(parts, moves):
    place = {seat: number for number, part in enumerate(parts) for seat in part}
    return all(len({place[move[seat]] for seat in part}) == 1 for move in moves for part in parts)


def subsets(size):
    return [[seat for seat in range(size) if number >> seat & 1] for number in range(1 << size)]


def unlike_dyeings(size, moves, dyes):
    """All dyeings gone through: each new one takes all that are alike with it away."""
    met = set()
    count = 0
    for dyeing in product(range(dyes), repeat=size):
        if dyeing not in met:
            count += 1
            met.add(dyeing)
            pending = [dyeing]
            while pending:
                ahead = pending.pop()
                for move in moves:
                    made = [0] * size
                    for seat in range(size):
                        made[move[seat]] = ahead[seat]
                    if tuple(made) not in met:
                        met.add(tuple(made))
                        pending.append(tuple(made))
    return count


class TestRingOf(unittest.TestCase):
    def test_by_joining(self):
        for size, moves in rooms_to_ask():
            room = room_of(size, moves)
            parts = joined_parts(size, [(seat, move[seat]) for move in moves for seat in range(size)])
            for seat in range(size):
                told = ring_of(room, seat)
                self.assertIs(type(told), list)
                self.assertEqual([told], [part for part in parts if seat in part])

    def test_where_the_seatings_send_it(self):
        for size, moves in small_rooms():
            room = room_of(size, moves)
            reached = reached_one_by_one(size, moves)
            for seat in range(size):
                self.assertEqual(ring_of(room, seat), sorted({a[seat] for a in reached}))

    def test_no_move(self):
        for size in SIZES:
            for seat in range(size):
                self.assertEqual(ring_of(Room(size), seat), [seat])

    def test_told_ones(self):
        room = room_of(16, [seating_by_rings(16, (3, 15, 9)), seating_by_rings(16, (9, 1), (4, 5))])
        self.assertEqual(ring_of(room, 9), [1, 3, 9, 15])
        self.assertEqual(ring_of(room, 5), [4, 5])
        self.assertEqual(ring_of(room, 0), [0])
        self.assertEqual(ring_of(room_of(16, [round_of(16)]), 15), list(range(16)))

    def test_no_seat(self):
        for size in (1, 4, 16):
            for room in (Room(size), room_of(size, [round_of(size)])):
                for seat in not_seats(size):
                    with self.subTest(size=size, seat=seat), self.assertRaises(NoSeat):
                        ring_of(room, seat)


class TestParting(unittest.TestCase):
    def test_by_joining(self):
        for size, moves in rooms_to_ask():
            room = room_of(size, moves)
            for one in range(size):
                for other in range(0, size, 1 if size < 6 else 3):
                    told = parting(room, one, other)
                    self.assertIs(type(told), list)
                    self.assertTrue(all(type(part) is list for part in told))
                    self.assertEqual(told, finest_parting(size, moves, one, other))

    def test_finest_of_all_partings(self):
        for size, moves in few_small_rooms():
            room = room_of(size, moves)
            kept = [parts for parts in every_parting(size) if keeps(parts, moves)]
            for one in range(size):
                for other in range(size):
                    told = parting(room, one, other)
                    such = [parts for parts in kept if any(one in part and other in part for part in parts)]
                    self.assertIn(told, such)
                    for parts in such:
                        self.assertTrue(all(any(set(part) <= set(wide) for wide in parts) for part in told))

    def test_one_seat_twice(self):
        for size, moves in rooms_to_ask():
            room = room_of(size, moves)
            for seat in range(size):
                self.assertEqual(parting(room, seat, seat), [[other] for other in range(size)])

    def test_no_move(self):
        self.assertEqual(parting(Room(1), 0, 0), [[0]])
        self.assertEqual(parting(Room(5), 3, 1), [[0], [1, 3], [2], [4]])
        self.assertEqual(parting(Room(16), 15, 0), [[0, 15]] + [[seat] for seat in range(1, 15)])

    def test_told_ones(self):
        blocks = [[0, 1, 2, 3], [4, 5, 6, 7], [8, 9, 10, 11], [12, 13, 14, 15]]
        room = room_of(16, BLOCKS_OF_FOUR)
        self.assertEqual(parting(room, 1, 3), blocks)
        self.assertEqual(parting(room, 14, 12), blocks)
        self.assertEqual(parting(room, 3, 4), [list(range(16))])
        ring = room_of(16, [round_of(16)])
        self.assertEqual(parting(ring, 2, 10), [[seat, seat + 8] for seat in range(8)])
        self.assertEqual(parting(ring, 15, 3), blocks_by_rest(4))
        self.assertEqual(parting(ring, 0, 2), [list(range(0, 16, 2)), list(range(1, 16, 2))])
        # Two rings that go together: a part of seats of both.
        both = room_of(6, [seating_by_rings(6, (0, 1, 2), (3, 4, 5))])
        self.assertEqual(parting(both, 4, 0), [[0, 4], [1, 5], [2, 3]])
        self.assertEqual(parting(both, 4, 5), [[0], [1], [2], [3, 4, 5]])

    def test_no_seat(self):
        for size in (1, 4, 16):
            for room in (Room(size), room_of(size, [round_of(size)])):
                for wrong in not_seats(size):
                    for one, other in ((wrong, 0), (0, wrong), (wrong, wrong), (wrong, size - 1), (size - 1, wrong)):
                        with self.subTest(one=one, other=other), self.assertRaises(NoSeat):
                            parting(room, one, other)


def blocks_by_rest(count):
    return [list(range(first, 16, count)) for first in range(count)]


class TestWithin(unittest.TestCase):
    def test_small_rooms_both_ways(self):
        rooms = [(size, room_of(size, moves), reached_one_by_one(size, moves)) for size, moves in few_small_rooms()]
        for size, room, reached in rooms:
            for other_size, other, other_reached in rooms:
                if size == other_size:
                    self.assertIs(within(room, other), reached <= other_reached)
                else:
                    with self.assertRaises(OtherSize):
                        within(room, other)

    def test_a_room_itself_and_another_like_it(self):
        for size, moves, count in known_rooms():
            room = room_of(size, moves)
            self.assertIs(within(room, room), True)
            again = room_of(size, list(reversed(moves)) + [rest(size)])
            self.assertIs(within(room, again), True)
            self.assertIs(within(again, room), True)
            self.assertIs(within(Room(size), room), True)
            self.assertIs(within(room, Room(size)), count == 1)

    def test_great_rooms(self):
        for size in range(6, 17):
            whole = room_of(size, whole_moves(size))
            halved = room_of(size, even_moves(size))
            self.assertIs(within(halved, whole), True)
            self.assertIs(within(whole, halved), False)

    def test_between_the_moves(self):
        one = Room(4)
        other = Room(4)
        self.assertIs(within(one, other), True)
        one.put_move((1, 0, 2, 3))
        self.assertIs(within(one, other), False)
        other.put_move((1, 2, 3, 0))
        self.assertIs(within(one, other), False)
        other.put_move((0, 2, 1, 3))
        self.assertIs(within(one, other), True)
        self.assertIs(within(other, one), False)

    def test_other_size(self):
        for one in SIZES:
            for other in SIZES:
                if one != other:
                    with self.subTest(one=one, other=other), self.assertRaises(OtherSize):
                        within(Room(one), Room(other))


class TestHolding(unittest.TestCase):
    def hold(self, room, reached, seats):
        handed_in = list(seats)
        held = holding(room, handed_in)
        self.assertEqual(handed_in, seats)
        self.assertIs(type(held), Room)
        self.assertEqual(held.size, room.size)
        wanted = sorted(a for a in reached if all(a[seat] == seat for seat in seats))
        self.assertEqual([held.numbered(number) for number in range(held.how_many())], wanted)
        self.assertLessEqual(len(held.moves()), 120)
        self.assertTrue(all(room.reaches(move) for move in held.moves()))

    def test_small_rooms(self):
        for size, moves in few_small_rooms():
            room = room_of(size, moves)
            kept = answers(room)
            reached = reached_one_by_one(size, moves)
            for seats in subsets(size):
                self.hold(room, reached, seats)
                self.hold(room, reached, seats[::-1])
                self.hold(room, reached, seats + seats[:1] + seats)
            self.assertEqual(answers(room), kept)

    def test_no_seats_named(self):
        for size, moves, count in known_rooms():
            room = room_of(size, moves)
            held = holding(room, [])
            self.assertEqual(held.how_many(), count)
            self.assertTrue(within(held, room) and within(room, held))
            self.assertLessEqual(len(held.moves()), 120)

    def test_all_seats_named(self):
        for size, moves, count in known_rooms():
            held = holding(room_of(size, moves), list(range(size - 1, -1, -1)))
            self.assertEqual(held.how_many(), 1)

    def test_known_rooms(self):
        eleven = room_of(11, MATHIEU_11)
        twelve = room_of(12, MATHIEU_12)
        for room, seats, counts in (
            (eleven, [7, 2, 9, 4, 0], [7920, 720, 72, 8, 1, 1]),
            (twelve, [11, 5, 0, 8, 3], [95040, 7920, 720, 72, 8, 1]),
        ):
            self.assertEqual([holding(room, seats[:count]).how_many() for count in range(6)], counts)
        for size in (6, 11, 16):
            whole = room_of(size, whole_moves(size))
            halved = room_of(size, even_moves(size))
            for count in range(size - 1):
                seats = [(3 + 5 * k) % size for k in range(count)] * 2
                for room, reached in ((whole, factorial(size - count)), (halved, factorial(size - count) // 2)):
                    held = holding(room, seats)
                    self.assertEqual(held.how_many(), reached)
                    self.assertLessEqual(len(held.moves()), 120)
                    self.assertTrue(within(held, room))
                    for number in some_numbers(held.how_many()):
                        a = held.numbered(number)
                        self.assertTrue(room.reaches(a) and all(a[seat] == seat for seat in seats))

    def test_many_moves(self):
        room = room_of(16, some_seatings(16, 200))
        held = holding(room, [15, 0])
        self.assertEqual(held.how_many(), factorial(14) * room.how_many() // factorial(16))
        self.assertLessEqual(len(held.moves()), 120)

    def test_a_held_room_is_a_room_like_any(self):
        held = holding(room_of(5, whole_moves(5)), [2])
        held.put_move((0, 1, 3, 2, 4))
        self.assertEqual(held.how_many(), 120)
        twice = holding(holding(room_of(6, whole_moves(6)), [1]), [4])
        self.assertEqual(twice.how_many(), 24)
        self.assertIs(twice.reaches((5, 1, 2, 3, 4, 0)), True)

    def test_each_stays_as_it_is_when_the_other_takes_moves(self):
        first = room_of(6, [(1, 0, 2, 3, 4, 5), (0, 1, 3, 4, 2, 5)])
        for seats in ([], [0], [5], [3, 1]):
            held = holding(first, seats)
            kept = answers(held)
            ahead = answers(first)
            first.put_move(some_seatings(6, 9)[len(seats) + 4])
            self.assertEqual(answers(held), kept)
            self.assertNotEqual(answers(first), ahead)
            ahead = answers(first)
            held.put_move((1, 2, 3, 4, 5, 0))
            self.assertEqual(answers(first), ahead)

    def test_behind_a_move_it_is_worked_out_anew(self):
        room = room_of(5, [(1, 0, 2, 3, 4)])
        self.assertEqual(holding(room, [4]).how_many(), 2)
        room.put_move((0, 2, 3, 4, 1))
        self.assertEqual(holding(room, [4]).how_many(), 24)

    def test_no_seat(self):
        for size in (1, 4, 16):
            room = room_of(size, [round_of(size)])
            kept = answers(room)
            for wrong in not_seats(size):
                for seats in (
                    [wrong], [0, wrong], [wrong, 0], [0, wrong, 0], [0] * 40 + [wrong], list(range(size)) + [wrong],
                ):
                    with self.subTest(seats=seats), self.assertRaises(NoSeat):
                        holding(room, seats)
            self.assertEqual(answers(room), kept)


class TestDyed(unittest.TestCase):
    def test_small_rooms(self):
        for size, moves in few_small_rooms():
            room = room_of(size, moves)
            for dyes in range(1, 7 if size < 5 else 4):
                self.assertIs(type(dyed(room, dyes)), int)
                self.assertEqual(dyed(room, dyes), unlike_dyeings(size, moves, dyes))

    def test_five_and_more_seats(self):
        for size, moves in ((5, whole_moves(5)), (5, [round_of(5)]), (6, even_moves(6)), (8, [round_of(8)])):
            for dyes in range(1, 7 if size < 6 else 4):
                self.assertEqual(dyed(room_of(size, moves), dyes), unlike_dyeings(size, moves, dyes))

    def test_no_move(self):
        for size in SIZES:
            for dyes in range(1, 7):
                self.assertEqual(dyed(Room(size), dyes), dyes ** size)

    def test_told_ones(self):
        self.assertEqual(dyed(room_of(4, [round_of(4)]), 2), 6)
        self.assertEqual(dyed(room_of(16, [round_of(16)]), 2), 4116)
        self.assertEqual(dyed(room_of(6, [round_of(6), (5, 4, 3, 2, 1, 0)]), 2), 13)
        self.assertEqual(dyed(room_of(16, [round_of(16)]), 1), 1)

    def test_just_2000_is_answered(self):
        room = room_of(15, JUST_2000)
        self.assertEqual(room.how_many(), 2000)
        turned_over = [round_of(5), (0, 4, 3, 2, 1)]
        stretched = [round_of(5), (0, 2, 4, 1, 3)]
        for dyes in range(1, 7):
            wanted = unlike_dyeings(5, turned_over, dyes) ** 2 * unlike_dyeings(5, stretched, dyes)
            self.assertEqual(dyed(room, dyes), wanted)

    def test_more_is_too_wide(self):
        for size, moves in ((15, JUST_2016), (7, even_moves(7)), (16, whole_moves(16)), (16, BLOCKS_OF_FOUR)):
            room = room_of(size, moves)
            self.assertGreater(room.how_many(), 2000)
            kept = answers(room)
            for dyes in range(1, 7):
                with self.subTest(size=size, dyes=dyes), self.assertRaises(TooWide):
                    dyed(room, dyes)
            self.assertEqual(answers(room), kept)

    def test_no_number(self):
        for room in (Room(1), room_of(5, whole_moves(5)), room_of(15, JUST_2016), room_of(16, whole_moves(16))):
            for dyes in (0, 7, 8, -1, -6, SIXTY_FIGURES, -SIXTY_FIGURES):
                with self.subTest(size=room.size, dyes=dyes), self.assertRaises(NoNumber):
                    dyed(room, dyes)

    def test_between_the_moves(self):
        room = Room(9)
        self.assertEqual(dyed(room, 2), 2 ** 9)
        together = seating_by_rings(9, (0, 3, 6), (1, 4, 7), (2, 5, 8))
        moves = [together, swap(9, 0, 3), swap(9, 1, 4), rest(9), swap(9, 5, 8)]
        for number, move in enumerate(moves):
            room.put_move(move)
            self.assertEqual(dyed(room, 2), unlike_dyeings(9, moves[:number + 1], 2))
        room.put_move(swap(9, 0, 1))
        with self.assertRaises(TooWide):
            dyed(room, 2)


class TestHandedIn(unittest.TestCase):
    def test_rooms_stay_as_they_were(self):
        room = room_of(6, [(1, 2, 0, 3, 4, 5), (0, 1, 2, 4, 3, 5)])
        other = room_of(6, whole_moves(6))
        kept = (answers(room), answers(other))
        ring_of(room, 1).append(5)
        for part in parting(room, 0, 1):
            part.clear()
        parting(room, 0, 1).clear()
        within(room, other)
        holding(room, [3]).moves().clear()
        dyed(room, 3)
        self.assertEqual((answers(room), answers(other)), kept)
        self.assertEqual(ring_of(room, 1), [0, 1, 2])
        self.assertEqual(parting(room, 0, 1), [[0, 1, 2], [3], [4], [5]])

    def test_questions_between_the_moves(self):
        room = Room(4)
        self.assertEqual((ring_of(room, 0), parting(room, 0, 2)), ([0], [[0, 2], [1], [3]]))
        room.put_move((1, 2, 3, 0))
        self.assertEqual((ring_of(room, 0), parting(room, 0, 2)), ([0, 1, 2, 3], [[0, 2], [1, 3]]))
        room.put_move((1, 0, 2, 3))
        self.assertEqual((ring_of(room, 0), parting(room, 0, 2)), ([0, 1, 2, 3], [[0, 1, 2, 3]]))

    def test_arguments_bear_their_names(self):
        told = {
            "ring_of": ["room", "seat"], "parting": ["room", "one", "other"], "within": ["room", "other"],
            "holding": ["room", "seats"], "dyed": ["room", "dyes"],
        }
        for name, arguments in told.items():
            self.assertEqual(list(inspect.signature(getattr(asked, name)).parameters), arguments)


if __name__ == "__main__":
    unittest.main()
