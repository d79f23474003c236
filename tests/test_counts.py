"""14.1, 0.2 (j), 0.3: what rows show."""

import collections
import itertools
import random
import unittest

from cutroom.counts import black_in, how_many, reels_in, seen_often, shared, unseen
from cutroom.errors import BadRow, BadShelf, OffReel
from cutroom.pulls import pulls
from tests.samples import FULL_ROWS, NAMES, NO_ROWS, NO_SHELVES, ROWS, any_row, refusal, runs_of, shown

SHELF = (("a", 12), ("aa", 5), ("ab", 1), ("b", 9), ("z", 30))
WIDE = (("a", 10000), ("ab", 10000), ("c", 10000))
BLACK = ("", 0)
OF_ROWS = (reels_in, how_many, black_in, seen_often)


def rows_at_random():
    chance = random.Random(14)
    return [any_row(chance, SHELF, chance.randrange(7), 6) for turn in range(150)]


class OfOneRow(unittest.TestCase):
    def test_held_against_a_count_frame_by_frame(self):
        for row in list(ROWS + FULL_ROWS) + rows_at_random():
            frames = shown(row)
            names = sorted({name for name, number in frames if name != ""})
            self.assertEqual(reels_in(row), names)
            self.assertEqual(how_many(row), [(name, sum(frame[0] == name for frame in frames)) for name in names])
            self.assertEqual(black_in(row), sum(frame == BLACK for frame in frames))
            self.assertEqual(sum(many for name, many in how_many(row)) + black_in(row), len(frames))
            often = collections.Counter(frame for frame in frames if frame != BLACK)
            self.assertEqual(seen_often(row), sorted((*frame, many) for frame, many in often.items() if many > 1))

    def test_plain_ones(self):
        row = (("z", 5, 1, 3), ("", 0, 0, 2), ("ab", 7, -1, 3), ("a", 9, 0, 4), ("", 0, 0, 1), ("z", 6, 1, 4))
        self.assertEqual(reels_in(row), ["a", "ab", "z"])
        self.assertEqual(how_many(row), [("a", 4), ("ab", 3), ("z", 7)])
        self.assertEqual(black_in(row), 3)
        self.assertEqual(seen_often(row), [("a", 9, 4), ("z", 6, 2), ("z", 7, 2)])
        row += (("ab", 5, 0, 1), ("ab", 10, 0, 2), ("z", 7, 0, 1))
        self.assertEqual(seen_often(row), [("a", 9, 4), ("ab", 5, 2), ("ab", 10, 2), ("z", 6, 2), ("z", 7, 3)])

    def test_names_rise_whatever_their_order(self):
        for names in (NAMES, NAMES[::-1], NAMES[1::2] + NAMES[::2]):
            row = tuple((name, 5, 0, 2) for name in names)
            self.assertEqual(reels_in(row), list(NAMES))
            self.assertEqual(how_many(row), [(name, 2) for name in NAMES])
            self.assertEqual(seen_often(row), [(name, 5, 2) for name in NAMES])

    def test_numbers_rise_as_numbers(self):
        row = (("a", 1000, 0, 2), ("a", 9, 0, 2), ("a", 10, 0, 3), ("a", 100, 0, 2))
        self.assertEqual(seen_often(row), [("a", 9, 2), ("a", 10, 3), ("a", 100, 2), ("a", 1000, 2)])

    def test_the_row_without_pieces_and_black_ones(self):
        for row, many in (((), 0), ((("", 0, 0, 5),), 5), ((("", 0, 0, 2), ("", 0, 0, 2)), 4)):
            self.assertEqual([call(row) for call in OF_ROWS], [[], [], many, []])

    def test_bad_row(self):
        for call, row in itertools.product(OF_ROWS, NO_ROWS):
            self.assertEqual(refusal(call, row), BadRow)

    def test_what_is_told_is_new(self):
        row = (("a", 5, 0, 2),)
        for call in (reels_in, how_many, seen_often):
            before = list(call(row))
            call(row).append("changed")
            self.assertEqual(call(row), before)


class Shared(unittest.TestCase):
    def test_held_against_a_walk_over_all(self):
        rows = list(ROWS) + rows_at_random()[:40]
        for one, other in itertools.product(rows, rows):
            there = shown(other)
            want = []
            for frame in sorted(shown(one)):
                if frame != BLACK and frame in there and frame not in want:
                    want.append(frame)
            self.assertEqual(shared(one, other), want)

    def test_a_row_with_itself(self):
        for row in list(ROWS + FULL_ROWS) + rows_at_random():
            self.assertEqual(shared(row, row), sorted(set(shown(row)) - {BLACK}))

    def test_plain_ones(self):
        one = (("z", 5, 1, 3), ("", 0, 0, 2), ("ab", 12, -1, 4), ("a", 9, 0, 4))
        other = (("", 0, 0, 1), ("a", 9, -1, 2), ("a", 8, 1, 3), ("ab", 9, 1, 2), ("z", 8, 1, 3))
        self.assertEqual(shared(one, other), [("a", 9), ("ab", 9), ("ab", 10)])
        self.assertEqual(shared(other, one), [("a", 9), ("ab", 9), ("ab", 10)])
        self.assertEqual(shared(one, ()), [])
        self.assertEqual(shared((), one), [])
        self.assertEqual(shared((("", 0, 0, 2),), (("", 0, 0, 2),)), [])
        self.assertEqual(shared((("a", 0, 0, 1),), (("b", 0, 0, 1),)), [])

    def test_bad_row_of_either(self):
        for row in NO_ROWS:
            for other in ((), ROWS[1], None):
                self.assertEqual(refusal(shared, row, other), BadRow)
                self.assertEqual(refusal(shared, other, row), BadRow)


class Unseen(unittest.TestCase):
    def test_seen_and_unseen_are_the_whole_shelf(self):
        whole = {(name, number) for name, many in SHELF for number in range(many)}
        for row in rows_at_random() + [()]:
            told = unseen(SHELF, row)
            self.assertEqual(told, runs_of(whole - set(shown(row))))
            seen = {(name, first + k) for name, first, many in pulls(SHELF, (row,), 0) for k in range(many)}
            left = {(name, first + k) for name, first, many in told for k in range(many)}
            self.assertEqual(seen | left, whole)
            self.assertEqual(seen & left, set())
            self.assertIs(type(told), list)

    def test_plain_ones(self):
        shelf = (("a", 10), ("b", 5), ("c", 1))
        for row, want in (
            ((), [("a", 0, 10), ("b", 0, 5), ("c", 0, 1)]),
            ((("", 0, 0, 9),), [("a", 0, 10), ("b", 0, 5), ("c", 0, 1)]),
            ((("c", 0, 0, 4),), [("a", 0, 10), ("b", 0, 5)]),
            ((("b", 4, -1, 5),), [("a", 0, 10), ("c", 0, 1)]),
            ((("a", 0, 1, 10), ("b", 0, 1, 5), ("c", 0, 0, 1)), []),
            ((("a", 3, 1, 2), ("b", 0, 0, 1)), [("a", 0, 3), ("a", 5, 5), ("b", 1, 4), ("c", 0, 1)]),
            ((("a", 9, -1, 2), ("b", 4, 0, 1), ("a", 1, 0, 1)), [("a", 0, 1), ("a", 2, 6), ("b", 0, 4), ("c", 0, 1)]),
            ((("a", 2, 1, 3), ("a", 5, 1, 1), ("a", 4, 1, 3)), [("a", 0, 2), ("a", 7, 3), ("b", 0, 5), ("c", 0, 1)]),
            ((("a", 8, 0, 1), ("a", 6, 0, 1)), [("a", 0, 6), ("a", 7, 1), ("a", 9, 1), ("b", 0, 5), ("c", 0, 1)]),
        ):
            with self.subTest(row=row):
                self.assertEqual(unseen(shelf, row), want)

    def test_full_rows_and_the_longest_reels(self):
        whole = {(name, number) for name, many in WIDE for number in range(many)}
        for row in FULL_ROWS:
            self.assertEqual(unseen(WIDE, row), runs_of(whole - set(shown(row))))

    def test_bad_shelf(self):
        for shelf in NO_SHELVES:
            for row in ((), None, (("zz", 0, 0, 1),)):
                self.assertEqual(refusal(unseen, shelf, row), BadShelf)

    def test_bad_row(self):
        for row in NO_ROWS:
            self.assertEqual(refusal(unseen, SHELF, row), BadRow)

    def test_off_reel(self):
        for piece in (("a", 12, 0, 1), ("a", 10, 1, 3), ("b", 9, -1, 2), ("c", 0, 0, 1), ("aaa", 0, 0, 1)):
            self.assertEqual(refusal(unseen, SHELF, (piece,)), OffReel)
            self.assertEqual(refusal(unseen, SHELF, (("z", 0, 1, 3), piece)), OffReel)
            self.assertEqual(refusal(unseen, SHELF, (piece, ("", 0, 0, 3))), OffReel)
