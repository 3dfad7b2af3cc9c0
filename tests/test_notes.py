"""Points 1, 4 and 13, as far as shiftroom.notes answers for them."""

import inspect
import re
import unittest
from itertools import permutations

from shiftroom import notes
from shiftroom.errors import NoSeating, NoSize, NotRead
from shiftroom.notes import read, shown
from shiftroom.rings import rings
from shiftroom.seats import rest
from tests.samples import (
    MIXED_RINGS, NOT_SEATINGS, NOT_SIZES, SEVEN_FIVE_FOUR, SIZES, every_seating, round_of, seating_by_rings,
    seatings_of_all_sizes, swap,
)

# Every sign that a text may have.
SIGNS = ["\t", "\n"] + [chr(number) for number in range(32, 127) if chr(number) != "%"]

NOT_READ_AT_16 = (
    # An empty text, and texts of edges alone.
    "", " ", "(", ")", "(())", ")(", "((", "))", "( )", "() ", " ()", "()()", "()\n", "\t()",
    # Rest beside a ring.
    "()(0 1)", "(0 1)()", "(0 1)()(2 3)",
    # A ring of one seat, alone and among others.
    "(0)", "(15)", "(0 1)(2)", "(2)(0 1)",
    # A seat twice, in one ring and in two.
    "(0 0)", "(0 1 0)", "(0 1 1)", "(3 4 5 4)", "(0 1)(1 2)", "(0 1)(2 0)", "(0 1)(0 1)", "(0 1)(2 3)(4 1)",
    # A seat at the size or beyond it.
    "(0 16)", "(16 0)", "(0 17)", "(0 100)", "(0 1)(2 16)", "(0 99999999999)",
    # A nought ahead of a figure.
    "(00 1)", "(0 01)", "(1 00)", "(010 1)", "(0 1 002)",
    # Blanks: two, at an edge, between rings, around.
    "(0  1)", "(0 1  2)", "( 0 1)", "(0 1 )", " (0 1)", "(0 1) ", "(0 1) (2 3)", "(0 1)  (2 3)", "(0 1)( 2 3)",
    # Tabs and line ends in a blank's place and elsewhere.
    "(0\t1)", "(0\n1)", "(0 1)\n", "\n(0 1)", "(0 1)\t", "(0 1)\n(2 3)", "(0 \t1)", "(0 1\n)",
    # Signs that don't belong there.
    "(0,1)", "(0, 1)", "(-1 0)", "(+1 0)", "(0 1.0)", "(0 1e0)", "(0 0x1)", "(1_0 0)", "[0 1]", "{0 1}", "0 1", "0",
    "(0 a)", "(a b)", "(0 1)x", "x(0 1)", "(0 1)x(2 3)", "(0 1),(2 3)", "(0-1)", "(~0 1)", "(0 1;)", "rest", "'(0 1)'",
    # Edges too many, too few, within one another.
    "(0 1", "0 1)", "(0 1)(", "(0 1))", "((0 1)", "((0 1))", "(0 1)(2 3", "(0 1)2 3)", "(0 1(2 3))", "(0 1)((2 3)",
    "(0 1))(2 3)", "(0 (1 2))", "(0 1)2(3 4)", "(0 1)(2 3)4",
)


def rings_from_any_seat(ring):
    return [ring[place:] + ring[:place] for place in range(len(ring))]


def written(told):
    return "".join("(" + " ".join(str(seat) for seat in ring) + ")" for ring in told)


def many():
    return every_seating(5) + seatings_of_all_sizes(20) + [MIXED_RINGS, SEVEN_FIVE_FOUR, round_of(16)]


class TestShown(unittest.TestCase):
    def test_rest(self):
        for size in SIZES:
            self.assertEqual(shown(rest(size)), "()")

    def test_one_ring(self):
        self.assertEqual(shown((1, 0)), "(0 1)")
        self.assertEqual(shown((2, 0, 1)), "(0 2 1)")
        self.assertEqual(shown((0, 3, 2, 1)), "(1 3)")
        for size in range(2, 17):
            self.assertEqual(shown(round_of(size)), "(" + " ".join(str(seat) for seat in range(size)) + ")")
            self.assertEqual(shown(swap(size, 0, size - 1)), f"(0 {size - 1})")

    def test_several_rings_and_seats_of_two_figures(self):
        self.assertEqual(shown((3, 2, 1, 0)), "(0 3)(1 2)")
        self.assertEqual(shown((4, 3, 0, 1, 2, 5)), "(0 4 2)(1 3)")
        self.assertEqual(shown(MIXED_RINGS), "(0 5 11 13 12 6 10 14)(2 8 9)(3 7 4)")
        self.assertEqual(shown(seating_by_rings(16, (10, 9), (15, 11, 2))), "(2 15 11)(9 10)")

    def test_told_by_the_rings(self):
        for a in many():
            self.assertIs(type(shown(a)), str)
            self.assertEqual(shown(a), written(rings(a)) or "()")

    def test_no_seating(self):
        for wrong in NOT_SEATINGS:
            with self.subTest(wrong=wrong), self.assertRaises(NoSeating):
                shown(wrong)


class TestRead(unittest.TestCase):
    def test_what_is_shown_comes_back(self):
        for a in many():
            self.assertEqual(read(shown(a), len(a)), a)
            self.assertIs(type(read(shown(a), len(a))), tuple)

    def test_a_greater_size_leaves_the_further_seats(self):
        for size in range(4, 17):
            self.assertEqual(read("(0 3)(1 2)", size), (3, 2, 1, 0) + tuple(range(4, size)))
            self.assertEqual(read("()", size), rest(size))

    def test_one_seat(self):
        self.assertEqual(read("()", 1), (0,))
        for text in ("(0)", "(0 0)", "(0 1)", "", "0"):
            with self.subTest(text=text), self.assertRaises(NotRead):
                read(text, 1)

    def test_rings_in_any_order_from_any_seat(self):
        for a in every_seating(5):
            for order in permutations(rings(a)):
                self.assertEqual(read(written(order) or "()", len(a)), a)
        for a in seatings_of_all_sizes(6) + [MIXED_RINGS]:
            told = rings(a)
            for place, ring in enumerate(told):
                for turned in rings_from_any_seat(ring):
                    self.assertEqual(read(written(told[:place] + [turned] + told[place + 1:]), len(a)), a)
            self.assertEqual(read(written([ring[-1:] + ring[:-1] for ring in reversed(told)]) or "()", len(a)), a)

    def test_told_ones(self):
        self.assertEqual(read("(1 0)", 2), (1, 0))
        self.assertEqual(read("(2 1 0)", 3), (2, 0, 1))
        self.assertEqual(read("(1 0 2)", 3), (2, 0, 1))
        self.assertEqual(read("(2 3)(1 0)", 4), (1, 0, 3, 2))
        self.assertEqual(read("(15 10)(3 12 1)", 16), seating_by_rings(16, (10, 15), (1, 3, 12)))

    def test_texts_that_are_not_read(self):
        for text in NOT_READ_AT_16:
            with self.subTest(text=text), self.assertRaises(NotRead):
                read(text, 16)

    def test_seats_at_the_size_and_beyond(self):
        for size in range(2, 17):
            self.assertEqual(read(f"(0 {size - 1})", size), swap(size, 0, size - 1))
            for seat in (size, size + 1, size + 10, size * 100):
                with self.subTest(size=size, seat=seat), self.assertRaises(NotRead):
                    read(f"(0 {seat})", size)

    def test_cut_off_at_any_place(self):
        for a in [MIXED_RINGS, SEVEN_FIVE_FOUR, round_of(16), (1, 0), (1, 0, 3, 2)]:
            text = shown(a)
            whole = [found.end() for found in re.finditer(r"\)", text)]
            for end in range(len(text)):
                if end in whole:
                    told = rings(a)[:whole.index(end) + 1]
                    self.assertEqual(read(text[:end], len(a)), seating_by_rings(len(a), *told))
                else:
                    with self.subTest(text=text[:end]), self.assertRaises(NotRead):
                        read(text[:end], len(a))
            for start in range(1, len(text) + 1):
                if text[start:start + 1] != "(":
                    with self.subTest(text=text[start:]), self.assertRaises(NotRead):
                        read(text[start:], len(a))

    def test_any_sign_at_any_place(self):
        good = re.compile(r"\((0|[1-5])( (0|[1-5]))+\)(\((0|[1-5])( (0|[1-5]))+\))*\Z")
        text = "(0 4)(1 3 2)"
        for place in range(len(text) + 1):
            for sign in SIGNS:
                for changed in (text[:place] + sign + text[place:], text[:place] + sign + text[place + 1:]):
                    figures = re.findall(r"\d+", changed)
                    if good.match(changed) and len(set(figures)) == len(figures):
                        self.assertEqual(rings(read(changed, 6)), sorted(self.rings_by_hand(changed)))
                    else:
                        with self.subTest(text=changed), self.assertRaises(NotRead):
                            read(changed, 6)

    def rings_by_hand(self, text):
        for part in re.findall(r"\(([^)]*)\)", text):
            ring = tuple(int(word) for word in part.split(" "))
            least = ring.index(min(ring))
            yield ring[least:] + ring[:least]

    def test_long_texts(self):
        for text in (
            "(0 " + "1" * 296 + ")", "(" + "9" * 298 + ")", "(0 " + "0" * 295 + "1)", "(" * 300, ")" * 300, "()" * 150,
            " " * 300, "0" * 300, "\n" * 300, "(0 1)" * 60, "(0" + " " * 296 + "1)", "(0 1" + " " * 295 + ")",
            "(0 1)" + " " * 295, " " * 295 + "(0 1)", "(" + "0 1 " * 74 + "2 3)", "~" * 300, "(" * 150 + ")" * 150,
            "(0 " + "1" * 6000 + ")", "(0 1)" * 2000,
        ):
            with self.subTest(text=text[:20], length=len(text)), self.assertRaises(NotRead):
                read(text, 16)

    def test_every_short_text(self):
        signs = "()01 "
        texts = [""]
        for length in range(6):
            for text in texts:
                if text in ("()", "(0 1)", "(1 0)"):
                    self.assertEqual(read(text, 2), (0, 1) if text == "()" else (1, 0))
                else:
                    with self.subTest(text=text), self.assertRaises(NotRead):
                        read(text, 2)
            texts = [text + sign for text in texts for sign in signs]

    def test_no_size_goes_first(self):
        for size in NOT_SIZES:
            for text in ("()", "(0 1)", "", "(0 0)", "(0 99)", "x"):
                with self.subTest(size=size, text=text), self.assertRaises(NoSize):
                    read(text, size)


class TestInterface(unittest.TestCase):
    def test_arguments_bear_their_names(self):
        for name, arguments in {"shown": ["a"], "read": ["text", "size"]}.items():
            self.assertEqual(list(inspect.signature(getattr(notes, name)).parameters), arguments)


if __name__ == "__main__":
    unittest.main()
