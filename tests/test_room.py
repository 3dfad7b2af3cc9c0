"""Points 1, 5 to 8 and 13, as far as shiftroom.room answers for them."""

import inspect
import unittest
from math import factorial

from shiftroom.errors import NoNumber, NoSeating, NoSize, OtherSize, TooMany, Unreached
from shiftroom.rings import even
from shiftroom.room import Room
from shiftroom.seats import is_seating, rest
from tests.samples import (
    BLOCKS_OF_FOUR, FOUR_FIGURES_OF_2, MATHIEU_12, NOT_SEATINGS, NOT_SIZES, SIXTY_FIGURES, SIZES, behind, even_moves,
    every_seating, few_small_rooms, known_rooms, reached_one_by_one, room_of, round_of, small_rooms,
    some_numbers, some_seatings, swap, way_back, whole_moves,
)


def seatings_of_size(size):
    return [a for a in every_seating(size) if len(a) == size]


def all_answers(room):
    count = room.how_many()
    some = [room.numbered(number) for number in some_numbers(count)]
    return (
        room.size, room.moves(), count, room.table(), some, [room.number_of(a) for a in some],
        [room.recipe(a) for a in some], [room.reaches(a) for a in some_seatings(room.size, 30)],
    )


def come_to_by(moves, size, recipe):
    """What each step of a recipe comes to; a step that is of none of the four forms breaks the test."""
    come_to = []
    for step in recipe:
        if type(step) is not tuple or any(type(number) is not int for number in step[1:]):
            raise AssertionError(f"no step: {step!r}")
        if any(not 0 <= number < len(come_to) for number in step[1:] if step[0] != "move"):
            raise AssertionError(f"no step ahead: {step!r}")
        if step == ("rest",):
            come_to.append(tuple(range(size)))
        elif step[0] == "move" and len(step) == 2 and 0 <= step[1] < len(moves):
            come_to.append(moves[step[1]])
        elif step[0] == "back" and len(step) == 2:
            come_to.append(way_back(come_to[step[1]]))
        elif step[0] == "then" and len(step) == 3:
            come_to.append(behind(come_to[step[1]], come_to[step[2]]))
        else:
            raise AssertionError(f"no step: {step!r}")
    return come_to


class TestMaking(unittest.TestCase):
    def test_each_size(self):
        for size in SIZES:
            room = Room(size)
            self.assertEqual(room.size, size)
            self.assertEqual(room.moves(), [])
            self.assertEqual(room.how_many(), 1)
            self.assertIs(room.reaches(rest(size)), True)
            self.assertEqual(room.table(), [[rest(size)] for _ in range(size)])
            self.assertEqual(room.numbered(0), rest(size))
            self.assertEqual(room.number_of(rest(size)), 0)

    def test_no_size(self):
        for size in NOT_SIZES:
            with self.subTest(size=size), self.assertRaises(NoSize):
                Room(size)

    def test_arguments_bear_their_names(self):
        told = {
            "put_move": ["move"], "moves": [], "how_many": [], "reaches": ["a"], "recipe": ["a"], "table": [],
            "numbered": ["n"], "number_of": ["a"],
        }
        self.assertEqual(list(inspect.signature(Room).parameters), ["size"])
        for name, arguments in told.items():
            self.assertEqual(list(inspect.signature(getattr(Room(3), name)).parameters), arguments)


class TestPutMove(unittest.TestCase):
    def test_true_just_where_more_is_reached(self):
        for size, moves in small_rooms():
            room = Room(size)
            ahead = 1
            for number, move in enumerate(moves):
                now = len(reached_one_by_one(size, moves[:number + 1]))
                self.assertIs(room.put_move(move), now > ahead)
                self.assertEqual(room.how_many(), now)
                ahead = now

    def test_the_same_move_twice_and_its_way_back(self):
        for size in range(2, 17):
            room = Room(size)
            self.assertIs(room.put_move(round_of(size)), True)
            self.assertIs(room.put_move(round_of(size)), False)
            self.assertIs(room.put_move(way_back(round_of(size))), False)
            self.assertEqual(room.moves(), [round_of(size), round_of(size), way_back(round_of(size))])
            self.assertEqual(room.how_many(), size)

    def test_rest_is_a_move(self):
        for size in SIZES:
            room = Room(size)
            self.assertIs(room.put_move(rest(size)), False)
            self.assertEqual(room.moves(), [rest(size)])
            self.assertEqual(room.how_many(), 1)

    def test_one_block_behind_the_other(self):
        room = Room(16)
        self.assertEqual([room.put_move(swap(16, k, k + 1)) for k in range(15)], [True] * 15)
        self.assertEqual([room.put_move(a) for a in some_seatings(16, 20)], [False] * 20)
        self.assertEqual(room.how_many(), factorial(16))

    def test_the_201st_is_refused(self):
        for size in (1, 5, 16):
            room = Room(size)
            row = (some_seatings(size, 3) * 70)[:200]
            for move in row:
                room.put_move(move)
            kept = all_answers(room)
            for move in (row[0], rest(size), round_of(size)):
                for _ in range(3):
                    with self.assertRaises(TooMany):
                        room.put_move(move)
            for wrong in NOT_SEATINGS:
                with self.assertRaises(NoSeating):
                    room.put_move(wrong)
            for other in SIZES:
                if other != size:
                    with self.assertRaises(OtherSize):
                        room.put_move(rest(other))
            self.assertEqual(len(room.moves()), 200)
            self.assertEqual(room.moves(), row)
            self.assertEqual(all_answers(room), kept)

    def test_the_201st_that_would_reach_more(self):
        room = room_of(4, [(1, 0, 2, 3)] * 200)
        with self.assertRaises(TooMany):
            room.put_move((1, 2, 3, 0))
        self.assertEqual(room.how_many(), 2)
        self.assertIs(room.reaches((1, 2, 3, 0)), False)

    def test_the_200th_is_taken(self):
        room = room_of(4, [(1, 0, 2, 3)] * 199)
        self.assertIs(room.put_move((1, 2, 3, 0)), True)
        self.assertEqual(room.how_many(), 24)

    def test_a_refusal_turns_nothing(self):
        for size, moves in few_small_rooms():
            room = room_of(size, moves)
            kept = all_answers(room)
            for wrong in NOT_SEATINGS:
                with self.assertRaises(NoSeating):
                    room.put_move(wrong)
            for other in SIZES:
                if other != size:
                    with self.assertRaises(OtherSize):
                        room.put_move(round_of(other))
            self.assertEqual(all_answers(room), kept)


class TestMoves(unittest.TestCase):
    def test_in_the_order_put_in(self):
        for size, moves in small_rooms():
            self.assertEqual(room_of(size, moves).moves(), moves)
        row = some_seatings(16, 200)
        self.assertEqual(room_of(16, row).moves(), row)

    def test_a_changed_list_turns_nothing(self):
        room = room_of(5, [(1, 0, 2, 3, 4), (0, 1, 3, 2, 4)])
        kept = all_answers(room)
        told = room.moves()
        told.append((1, 2, 3, 4, 0))
        told[0] = (4, 3, 2, 1, 0)
        told.reverse()
        self.assertEqual(all_answers(room), kept)
        room.moves().clear()
        self.assertEqual(room.moves(), [(1, 0, 2, 3, 4), (0, 1, 3, 2, 4)])
        self.assertIs(room.put_move((0, 1, 2, 4, 3)), True)
        self.assertEqual(room.moves(), [(1, 0, 2, 3, 4), (0, 1, 3, 2, 4), (0, 1, 2, 4, 3)])


class TestReached(unittest.TestCase):
    def test_small_rooms_one_by_one(self):
        for size, moves in small_rooms():
            room = room_of(size, moves)
            reached = reached_one_by_one(size, moves)
            self.assertEqual(room.how_many(), len(reached))
            self.assertIs(type(room.how_many()), int)
            for a in seatings_of_size(size):
                self.assertIs(room.reaches(a), a in reached)

    def test_known_rooms(self):
        for size, moves, count in known_rooms():
            with self.subTest(size=size, count=count):
                room = room_of(size, moves)
                self.assertEqual(room.how_many(), count)
                for move in moves:
                    self.assertIs(room.reaches(move), True)
                    self.assertIs(room.reaches(way_back(move)), True)

    def test_middling_rooms_one_by_one(self):
        for size, moves, count in known_rooms():
            if count <= 8000:
                reached = reached_one_by_one(size, moves)
                room = room_of(size, moves)
                self.assertEqual(len(reached), count)
                for a in sorted(reached)[::41]:
                    self.assertIs(room.reaches(a), True)
                for a in some_seatings(size, 200):
                    self.assertIs(room.reaches(a), a in reached)

    def test_whole_and_even_rooms(self):
        for size in range(6, 17):
            whole = room_of(size, whole_moves(size))
            halved = room_of(size, even_moves(size))
            for a in some_seatings(size, 60):
                self.assertIs(whole.reaches(a), True)
                self.assertIs(halved.reaches(a), even(a))

    def test_blocks_of_seats(self):
        room = room_of(16, BLOCKS_OF_FOUR)
        for a in some_seatings(16, 60) + [room.numbered(number) for number in some_numbers(room.how_many())]:
            keeps = all(len({a[4 * block + k] // 4 for k in range(4)}) == 1 for block in range(4))
            self.assertIs(room.reaches(a), keeps)
        self.assertIs(room.reaches(swap(16, 3, 4)), False)
        self.assertIs(room.reaches(swap(16, 14, 15)), True)

    def test_the_room_of_16_that_reaches_all(self):
        room = room_of(16, whole_moves(16))
        self.assertEqual(room.how_many(), 20922789888000)
        self.assertIs(room.put_move(tuple(range(15, -1, -1))), False)

    def test_refusals(self):
        for size in (1, 4, 16):
            room = room_of(size, [round_of(size)])
            for ask in (room.reaches, room.recipe, room.number_of):
                for wrong in NOT_SEATINGS:
                    with self.subTest(ask=ask, wrong=wrong), self.assertRaises(NoSeating):
                        ask(wrong)
                for other in SIZES:
                    if other != size:
                        with self.subTest(ask=ask, other=other), self.assertRaises(OtherSize):
                            ask(round_of(other))


class TestRecipe(unittest.TestCase):
    def hold(self, room, a):
        recipe = room.recipe(a)
        self.assertIs(type(recipe), list)
        self.assertTrue(1 <= len(recipe) <= 5000, len(recipe))
        self.assertEqual(come_to_by(room.moves(), room.size, recipe)[-1], a)

    def test_small_rooms(self):
        for size, moves in small_rooms():
            room = room_of(size, moves)
            for a in sorted(reached_one_by_one(size, moves)):
                self.hold(room, a)

    def test_known_rooms(self):
        for size, moves, count in known_rooms():
            room = room_of(size, moves)
            for number in some_numbers(room.how_many()):
                self.hold(room, room.numbered(number))
            for a in moves + [way_back(move) for move in moves] + [rest(size)]:
                self.hold(room, a)

    def test_many_moves(self):
        for moves in (
            some_seatings(16, 200), [swap(16, k % 15, k % 15 + 1) for k in range(200)],
            [round_of(16)] * 199 + [swap(16, 7, 3)], (even_moves(16) * 20)[:199] + [swap(16, 0, 15)],
            (FOUR_FIGURES_OF_2 * 70)[:200],
        ):
            room = room_of(16, moves)
            for number in some_numbers(room.how_many()):
                self.hold(room, room.numbered(number))

    def test_rest_has_one(self):
        for size in SIZES:
            self.hold(Room(size), rest(size))
            self.hold(room_of(size, [rest(size)]), rest(size))
            self.hold(room_of(size, [round_of(size)]), rest(size))

    def test_unreached(self):
        for size, moves in small_rooms():
            room = room_of(size, moves)
            reached = reached_one_by_one(size, moves)
            for a in seatings_of_size(size):
                if a not in reached:
                    for ask in (room.recipe, room.number_of):
                        with self.assertRaises(Unreached):
                            ask(a)
        room = room_of(16, even_moves(16))
        for ask in (room.recipe, room.number_of):
            with self.assertRaises(Unreached):
                ask(swap(16, 14, 15))

    def test_a_changed_list_turns_nothing(self):
        room = room_of(16, whole_moves(16))
        a = tuple(range(15, -1, -1))
        room.recipe(a).clear()
        self.hold(room, a)


class TestTable(unittest.TestCase):
    def hold(self, size, moves):
        room = room_of(size, moves)
        table = room.table()
        self.assertIs(type(table), list)
        self.assertEqual(len(table), size)
        count = 1
        for seat, row in enumerate(table):
            self.assertIs(type(row), list)
            self.assertIn(rest(size), row)
            sent = [a[seat] for a in row]
            self.assertEqual(sent, sorted(set(sent)))
            for a in row:
                self.assertTrue(type(a) is tuple and is_seating(a) and len(a) == size)
                self.assertEqual(a[:seat], rest(size)[:seat])
                self.assertIs(room.reaches(a), True)
            count *= len(row)
        self.assertEqual(count, room.how_many())
        return table

    def test_small_rooms(self):
        for size, moves in small_rooms():
            table = self.hold(size, moves)
            made = [rest(size)]
            for row in reversed(table):
                made = [behind(a, b) for a in made for b in row]
            self.assertEqual(sorted(made), sorted(reached_one_by_one(size, moves)))

    def test_known_rooms(self):
        for size, moves, count in known_rooms():
            lengths = [len(row) for row in self.hold(size, moves)]
            if count == factorial(size):
                self.assertEqual(lengths, list(range(size, 0, -1)))

    def test_told_the_same_each_time(self):
        for size, moves, count in known_rooms():
            room = room_of(size, moves)
            told = room.table()
            all_answers(room)
            self.assertEqual(room.table(), told)

    def test_a_changed_list_turns_nothing(self):
        room = room_of(12, MATHIEU_12)
        kept = all_answers(room)
        told = room.table()
        told[0].clear()
        told[1].append(swap(12, 1, 2))
        told[2][0] = swap(12, 2, 3)
        told.pop()
        self.assertEqual(all_answers(room), kept)


class TestNumbers(unittest.TestCase):
    def test_small_rooms(self):
        for size, moves in small_rooms():
            room = room_of(size, moves)
            order = sorted(reached_one_by_one(size, moves))
            self.assertEqual([room.numbered(number) for number in range(len(order))], order)
            self.assertEqual([room.number_of(a) for a in order], list(range(len(order))))

    def test_middling_rooms(self):
        for size, moves, count in known_rooms():
            if count <= 8000:
                room = room_of(size, moves)
                order = sorted(reached_one_by_one(size, moves))
                for number in list(range(0, count, 29)) + [count - 1]:
                    self.assertEqual(room.numbered(number), order[number])
                    self.assertEqual(room.number_of(order[number]), number)

    def test_one_the_others_way_back_in_their_order(self):
        for size, moves, count in known_rooms():
            room = room_of(size, moves)
            numbers = some_numbers(room.how_many())
            found = [room.numbered(number) for number in numbers]
            self.assertEqual(found[0], rest(size))
            self.assertEqual(found, sorted(found))
            self.assertEqual(len(set(found)), len(numbers))
            self.assertEqual([room.number_of(a) for a in found], numbers)
            self.assertTrue(all(room.reaches(a) and type(a) is tuple for a in found))

    def test_all_of_sixteen_by_hand(self):
        room = room_of(16, whole_moves(16))
        self.assertEqual(room.numbered(1), swap(16, 14, 15))
        self.assertEqual(room.numbered(factorial(15)), (1, 0) + tuple(range(2, 16)))
        self.assertEqual(room.numbered(factorial(16) - 1), tuple(range(15, -1, -1)))
        self.assertEqual(room.number_of(round_of(16)), sum(factorial(k) for k in range(1, 16)))
        for a in some_seatings(16, 30):
            lesser = [sum(1 for seat in a[k + 1:] if seat < a[k]) for k in range(16)]
            number = sum(count * factorial(15 - k) for k, count in enumerate(lesser))
            self.assertEqual(room.number_of(a), number)
            self.assertEqual(room.numbered(number), a)

    def test_no_number(self):
        for size, moves, count in known_rooms() + [(size, moves, None) for size, moves in few_small_rooms()]:
            room = room_of(size, moves)
            count = room.how_many()
            for number in (count, count + 1, 2 * count, -1, -count, SIXTY_FIGURES + count, -SIXTY_FIGURES):
                with self.subTest(size=size, number=number), self.assertRaises(NoNumber):
                    room.numbered(number)
            self.assertEqual(room.number_of(room.numbered(count - 1)), count - 1)


class TestRefusedQuestions(unittest.TestCase):
    def test_they_turn_nothing(self):
        room = room_of(16, even_moves(16)[:9])
        kept = all_answers(room)
        for ask, wrong, refusal in (
            (room.reaches, (0, 0), NoSeating), (room.reaches, (0, 1), OtherSize),
            (room.recipe, (0, 0), NoSeating), (room.recipe, (0, 1), OtherSize), (room.recipe, round_of(16), Unreached),
            (room.number_of, (), NoSeating), (room.number_of, (0,), OtherSize),
            (room.number_of, swap(16, 0, 1), Unreached),
            (room.numbered, -1, NoNumber), (room.numbered, room.how_many(), NoNumber),
        ):
            with self.subTest(ask=ask, wrong=wrong), self.assertRaises(refusal):
                ask(wrong)
            self.assertEqual(all_answers(room), kept)
        self.assertIs(room.put_move(swap(16, 0, 1)), True)
        self.assertEqual(room.how_many(), factorial(11))


class TestBetweenMoves(unittest.TestCase):
    def test_what_was_told_ahead_of_a_move_is_not_told_behind_it(self):
        for size, moves in few_small_rooms():
            asked = Room(size)
            for number, move in enumerate(moves):
                all_answers(asked)
                asked.put_move(move)
                order = sorted(reached_one_by_one(size, moves[:number + 1]))
                self.assertEqual(asked.how_many(), len(order))
                self.assertEqual([asked.numbered(k) for k in range(len(order))], order)
                self.assertEqual([asked.number_of(a) for a in order], list(range(len(order))))
                for a in order:
                    self.assertEqual(come_to_by(asked.moves(), size, asked.recipe(a))[-1], a)
                for a in seatings_of_size(size):
                    self.assertIs(asked.reaches(a), a in order)
                made = [rest(size)]
                for row in asked.table():
                    made = [behind(b, a) for a in made for b in row]
                self.assertEqual(sorted(made), order)

    def test_great_rooms(self):
        room = Room(16)
        count = 1
        for k in range(14, -1, -1):
            self.assertIs(room.reaches(swap(16, k, k + 1)), False)
            self.assertEqual(room.numbered(room.how_many() - 1)[:k + 1], tuple(range(k + 1)))
            with self.assertRaises(NoNumber):
                room.numbered(count)
            self.assertIs(room.put_move(swap(16, k, k + 1)), True)
            count *= 16 - k
            self.assertEqual(room.how_many(), count)
            last = tuple(range(k)) + tuple(range(15, k - 1, -1))
            self.assertEqual(room.numbered(count - 1), last)
            self.assertEqual(room.number_of(last), count - 1)
            self.assertEqual(come_to_by(room.moves(), 16, room.recipe(last))[-1], last)


class TestRoomsAreFree(unittest.TestCase):
    def test_moves_of_one_are_not_those_of_another(self):
        one = Room(5)
        other = Room(5)
        one.put_move((1, 0, 2, 3, 4))
        self.assertEqual(other.moves(), [])
        self.assertEqual(other.how_many(), 1)
        other.put_move((1, 2, 3, 4, 0))
        self.assertEqual(one.moves(), [(1, 0, 2, 3, 4)])
        self.assertEqual(one.how_many(), 2)
        self.assertEqual(other.how_many(), 5)
        self.assertIs(other.reaches((1, 0, 2, 3, 4)), False)
        self.assertEqual(Room(5).how_many(), 1)


if __name__ == "__main__":
    unittest.main()
