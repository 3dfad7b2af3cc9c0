"""A room: its moves, and what they reach."""

from shiftroom.book import Book
from shiftroom.errors import NoNumber, OtherSize, TooMany, Unreached
from shiftroom.seats import need_seating, need_size

MOST_MOVES = 200


class Room:
    def __init__(self, size):
        need_size(size)
        self.size = size
        self.put_in = []
        self.book = Book(size)

    def need_fitting(self, a):
        need_seating(a)
        if len(a) != self.size:
            raise OtherSize("the seating is of another size than the room")

    def need_reached(self, a):
        self.need_fitting(a)
        if not self.book.reaches(a):
            raise Unreached("the room doesn't reach this seating")

    def put_move(self, move):
        self.need_fitting(move)
        if len(self.put_in) >= MOST_MOVES:
            raise TooMany("a room takes 200 moves")
        more = self.book.put_move(move, len(self.put_in))
        self.put_in.append(move)
        return more

    def moves(self):
        return list(self.put_in)

    def how_many(self):
        return self.book.how_many()

    def reaches(self, a):
        self.need_fitting(a)
        return self.book.reaches(a)

    def recipe(self, a):
        self.need_reached(a)
        return self.book.recipe(a)

    def table(self):
        return self.book.table()

    def numbered(self, n):
        if not 0 <= n < self.how_many():
            raise NoNumber("the seatings that are reached are numbered from 0, and there are not so many")
        return self.book.numbered(n)

    def number_of(self, a):
        self.need_reached(a)
        return self.book.number_of(a)
