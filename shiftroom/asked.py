"""What is asked of rooms: rings of seats, partings, rooms within and out of rooms, dyeings."""

from shiftroom.errors import NoNumber, NoSeat, OtherSize, TooWide
from shiftroom.rings import rings
from shiftroom.room import Room
from shiftroom.seats import joined, rest, turned

MOST_DYES = 6
MOST_GONE_THROUGH = 2000


def need_seat(room, seat):
    if not 0 <= seat < room.size:
        raise NoSeat("the room doesn't have this seat")


def ring_of(room, seat):
    need_seat(room, seat)
    moves = room.moves()
    found = [seat]
    place = 0
    # The ways back are not needed: a move done often enough is its own way back.
    while place < len(found):
        for move in moves:
            if move[found[place]] not in found:
                found.append(move[found[place]])
        place = place + 1
    return sorted(found)


def first_seats(room, one, other):
    moves = room.moves()
    firsts = list(range(room.size))
    pending = [(one, other)]
    while pending != []:
        pair = pending.pop()
        pair_firsts = (firsts[pair[0]], firsts[pair[1]])
        if pair_firsts[0] != pair_firsts[1]:
            firsts = [min(pair_firsts) if first in pair_firsts else first for first in firsts]
            pending.extend([(move[pair[0]], move[pair[1]]) for move in moves])
    return firsts


def parting(room, one, other):
    need_seat(room, one)
    need_seat(room, other)
    parts = {}
    for seat, first in enumerate(first_seats(room, one, other)):
        parts.setdefault(first, []).append(seat)
    return [parts[first] for first in sorted(parts)]


def within(room, other):
    if room.size != other.size:
        raise OtherSize("the two rooms are of unlike sizes")
    return all([other.reaches(move) for move in room.moves()])


def seats_with_these_first(size, seats):
    named = [seat for seat in range(size) if seat in seats]
    return tuple(named + [seat for seat in range(size) if seat not in seats])


def seen_through(seating, names):
    # The same seating where seat k is called by the number at place k of names.
    return joined(joined(turned(names), seating), names)


def holding(room, seats):
    for seat in seats:
        need_seat(room, seat)
    # With the held seats first, just the later lists of a table leave them where they are.
    order = seats_with_these_first(room.size, seats)
    renamed = Room(room.size)
    for move in room.moves():
        renamed.put_move(seen_through(move, turned(order)))
    held = Room(room.size)
    for row in renamed.table()[len(set(seats)):]:
        for entry in row:
            seating = seen_through(entry, order)
            if not held.reaches(seating):
                held.put_move(seating)
    return held


def all_reached(room):
    found = [rest(room.size)]
    for row in room.table():
        longer = []
        for entry in row:
            longer.extend([joined(entry, ahead) for ahead in found])
        found = longer
    return found


def powers(number, most):
    found = [1]
    for exponent in range(most):
        found.append(found[exponent] * number)
    return found


def free_seats(seating):
    # A dyeing that a seating leaves alike has one dye for each ring and each seat that stays.
    return len(seating) - sum([len(ring) - 1 for ring in rings(seating)])


def dyed(room, dyes):
    if not 1 <= dyes <= MOST_DYES:
        raise NoNumber("there are 1 to 6 dyes")
    if room.how_many() > MOST_GONE_THROUGH:
        raise TooWide("the room reaches more than 2,000 seatings")
    ways = powers(dyes, room.size)
    left_alike = sum([ways[free_seats(seating)] for seating in all_reached(room)])
    # Each kind of dyeing is counted once for each seating that is reached.
    return left_alike // room.how_many()
