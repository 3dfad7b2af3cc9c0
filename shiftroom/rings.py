"""The rings of a seating, and what they tell of doing it many times."""

from shiftroom.seats import need_seating


def ring_from(a, first):
    ring = [first]
    seat = a[first]
    while seat != first:
        ring.append(seat)
        seat = a[seat]
    return tuple(ring)


def rings(a):
    need_seating(a)
    found = []
    for first in range(len(a)):
        ring = ring_from(a, first)
        # Each ring is met once from each of its seats; only the least one tells it.
        if len(ring) > 1 and first == min(ring):
            found.append(ring)
    return found


def age(a):
    # A ring is at rest at the multiples of its length, so the age is the least common one.
    count = 1
    for ring in rings(a):
        step = count
        while count % len(ring) != 0:
            count = count + step
    return count


def even(a):
    return sum([len(ring) - 1 for ring in rings(a)]) % 2 == 0


def times(a, n):
    # Going n places on within each ring costs the same for any n, great or below nought.
    sent = list(a)
    for ring in rings(a):
        for place, seat in enumerate(ring):
            sent[seat] = ring[(place + n) % len(ring)]
    return tuple(sent)
