"""Seatings: what is one, rest, one behind the other, the way back."""

from shiftroom.errors import NoSeating, NoSize, OtherSize

LEAST_SIZE = 1
GREATEST_SIZE = 16


def is_size(size):
    return LEAST_SIZE <= size <= GREATEST_SIZE


def is_seating(row):
    # The length goes first, so that a very long row is not sorted for nothing.
    if not is_size(len(row)):
        return False
    return sorted(row) == list(range(len(row)))


def need_size(size):
    if not is_size(size):
        raise NoSize("a room has 1 to 16 seats")


def need_seating(row):
    if not is_seating(row):
        raise NoSeating("a seating has each number of its 1 to 16 seats just once")


def rest(size):
    need_size(size)
    return tuple(range(size))


def joined(a, b):
    # For seatings that were looked at: the book joins too many to look at each one again.
    return tuple([b[seat] for seat in a])


def turned(a):
    senders = list(a)
    for sender, seat in enumerate(a):
        senders[seat] = sender
    return tuple(senders)


def then(a, b):
    # Both are looked at before the sizes are: NoSeating goes ahead of OtherSize.
    need_seating(a)
    need_seating(b)
    if len(a) != len(b):
        raise OtherSize("the two seatings are of unlike sizes")
    return joined(a, b)


def back(a):
    need_seating(a)
    return turned(a)
