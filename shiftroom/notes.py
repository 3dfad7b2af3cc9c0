"""A seating written by its rings, and read."""

from shiftroom.errors import NotRead
from shiftroom.rings import rings
from shiftroom.seats import need_size

REST = "()"


def ring_shown(ring):
    return "(" + " ".join([str(seat) for seat in ring]) + ")"


def shown(a):
    found = rings(a)
    if found == []:
        return REST
    return "".join([ring_shown(ring) for ring in found])


def ring_texts(text):
    if not (text.startswith("(") and text.endswith(")")):
        raise NotRead("a seating is written from a ( to a )")
    return text[1:-1].split(")(")


def ring_read(text, figures):
    # Only a seat's very figures are taken, so no text is made a number: a nought ahead, a sign or a
    # blank too many leaves a word that is none of them.
    ring = []
    for word in text.split(" "):
        if word not in figures:
            raise NotRead("a ring has seats of the room with one blank between")
        ring.append(figures.index(word))
    if len(ring) < 2:
        raise NotRead("a ring has two seats or more")
    return ring


def all_rings_read(text, size):
    figures = [str(seat) for seat in range(size)]
    return [ring_read(part, figures) for part in ring_texts(text)]


def sent_by_rings(found, size):
    sent = {}
    for ring in found:
        for place, seat in enumerate(ring):
            if seat in sent:
                raise NotRead("a seat stands at most once in all rings")
            sent[seat] = ring[(place + 1) % len(ring)]
    return tuple([sent.get(seat, seat) for seat in range(size)])


def read(text, size):
    need_size(size)
    if text == REST:
        return tuple(range(size))
    return sent_by_rings(all_rings_read(text, size), size)
