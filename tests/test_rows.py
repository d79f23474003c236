"""1.1 to 1.4, 0.2 (a), 0.3: rows, their films, the least row."""

import itertools
import unittest

from cutroom.errors import BadFilm, BadRow, NoPlace
from cutroom.rows import checked, film, frame_at, least, least_of, length, same_film
from tests.samples import (
    FULL_ROWS, GOOD_PIECES, HUGE, NO_ROWS, NO_WHOLE_NUMBERS, ROWS, can_be_one, fewest_pieces, refusal, shown,
)


class WhatIsARow(unittest.TestCase):
    def test_good_pieces(self):
        for piece in GOOD_PIECES:
            with self.subTest(piece):
                self.assertEqual(checked((piece,)), (piece,))
                self.assertEqual(length((piece,)), piece[3])

    def test_good_rows(self):
        for row in ROWS + FULL_ROWS:
            with self.subTest(row[:3]):
                self.assertEqual(checked(row), row)
                self.assertEqual(length(row), len(shown(row)))

    def test_row_without_pieces(self):
        self.assertEqual(checked(()), ())
        self.assertEqual(length(()), 0)
        self.assertEqual(film(()), [])
        self.assertEqual(least(()), ())

    def test_no_rows(self):
        # Python won't write a number as long as HUGE, so a fault is told by where the row stands in NO_ROWS.
        for number, row in enumerate(NO_ROWS):
            for call in (checked, length, film, least):
                with self.subTest(call.__name__, number=number):
                    self.assertEqual(refusal(call, row), BadRow)

    def test_full_and_too_full(self):
        for row in FULL_ROWS:
            self.assertEqual(length(row), 3000)
            self.assertEqual(refusal(checked, row + (("a", 0, 0, 1),)), BadRow)
            self.assertEqual(refusal(checked, (("", 0, 0, 1),) + row), BadRow)


class Films(unittest.TestCase):
    def test_frame_by_frame(self):
        self.assertEqual(film((("ab", 5, 1, 3),)), [("ab", 5), ("ab", 6), ("ab", 7)])
        self.assertEqual(film((("ab", 5, -1, 3),)), [("ab", 5), ("ab", 4), ("ab", 3)])
        self.assertEqual(film((("ab", 5, 0, 3),)), [("ab", 5), ("ab", 5), ("ab", 5)])
        self.assertEqual(film((("", 0, 0, 2), ("c", 9999, 1, 1))), [("", 0), ("", 0), ("c", 9999)])

    def test_all_rows(self):
        for row in ROWS + FULL_ROWS:
            with self.subTest(row[:3]):
                self.assertEqual(film(row), shown(row))

    def test_told_anew_each_time(self):
        for row in ROWS:
            with self.subTest(row):
                told = film(row)
                told.append(("zz", 1))
                told[0] = ("zz", 2)
                self.assertEqual(film(row), shown(row))
                self.assertIsNot(film(row), film(row))


class Frames(unittest.TestCase):
    def test_each_place(self):
        for row in ROWS + FULL_ROWS[:3]:
            frames = shown(row)
            for place in range(0, len(frames), 1 if len(frames) < 100 else 499):
                with self.subTest(row, place=place):
                    self.assertEqual(frame_at(row, place), frames[place])
        self.assertEqual(frame_at(FULL_ROWS[2], 2999), ("a", 0))

    def test_no_place(self):
        for row in ROWS:
            for place in NO_WHOLE_NUMBERS + (-1, -2, len(shown(row)), len(shown(row)) + 1, HUGE, -HUGE):
                with self.subTest(row):
                    self.assertEqual(refusal(frame_at, row, place), NoPlace)

    def test_bad_row_ahead_of_no_place(self):
        for row in NO_ROWS:
            for place in (0, -1, None, True):
                self.assertEqual(refusal(frame_at, row, place), BadRow)


class SameFilm(unittest.TestCase):
    def test_rows_parted_otherwise(self):
        whole = (("ab", 5, 1, 4), ("", 0, 0, 3))
        others = (
            (("ab", 5, 1, 1), ("ab", 6, 1, 3), ("", 0, 0, 3)),
            (("ab", 5, 0, 1), ("ab", 6, -1, 1), ("ab", 7, 1, 2), ("", 0, 0, 1), ("", 0, 0, 2)),
        )
        for other in others + (whole,):
            self.assertIs(same_film(whole, other), True)
            self.assertIs(same_film(other, whole), True)

    def test_other_films(self):
        for one, other in itertools.product(ROWS, ROWS):
            self.assertIs(same_film(one, other), shown(one) == shown(other))
        row = (("ab", 5, 1, 3),)
        for other in ((), (("ab", 5, 1, 2),), (("ab", 5, 1, 4),), (("ab", 7, -1, 3),), (("ac", 5, 1, 3),)):
            self.assertIs(same_film(row, other), False)

    def test_bad_row_of_either(self):
        for row in NO_ROWS:
            self.assertEqual(refusal(same_film, row, ()), BadRow)
            self.assertEqual(refusal(same_film, (), row), BadRow)
            self.assertEqual(refusal(same_film, row, row), BadRow)


class Least(unittest.TestCase):
    def check_least(self, told, frames):
        self.assertIsInstance(told, tuple)
        self.assertEqual(checked(told), told)
        self.assertEqual(shown(told), frames)
        self.assertEqual(len(told), fewest_pieces(frames))
        begin = 0
        for name, first, step, many in told:
            end = begin + many
            self.assertTrue(end == len(frames) or not can_be_one(frames[begin:end + 1]))
            self.assertTrue(many > 1 or step == 0)
            begin = end

    def test_plain_ones(self):
        self.assertEqual(least((("ab", 5, 1, 1),)), (("ab", 5, 0, 1),))
        self.assertEqual(least((("ab", 5, 1, 3), ("ab", 8, 1, 2))), (("ab", 5, 1, 5),))
        self.assertEqual(least((("ab", 5, 1, 3), ("ab", 7, -1, 2))), (("ab", 5, 1, 3), ("ab", 7, -1, 2)))
        self.assertEqual(least((("ab", 5, 1, 3), ("ab", 7, 0, 2))), (("ab", 5, 1, 3), ("ab", 7, 0, 2)))
        self.assertEqual(least((("ab", 5, -1, 1), ("ab", 7, 1, 2))), (("ab", 5, 0, 1), ("ab", 7, 1, 2)))
        self.assertEqual(least((("", 0, 0, 1), ("a", 0, 0, 1), ("b", 1, 0, 1))),
                         (("", 0, 0, 1), ("a", 0, 0, 1), ("b", 1, 0, 1)))
        self.assertEqual(least((("a", 0, 0, 1),) * 3000), (("a", 0, 0, 3000),))

    def test_from_the_beginning_on(self):
        self.assertEqual(least((("a", 5, 0, 1), ("a", 6, 0, 3))), (("a", 5, 1, 2), ("a", 6, 0, 2)))
        self.assertEqual(least((("a", 5, 0, 1), ("a", 6, -1, 3))), (("a", 5, 1, 2), ("a", 5, -1, 2)))

    def test_many_small_films(self):
        frames = [("", 0), ("a", 0), ("a", 1), ("a", 2), ("b", 1)]
        for many in range(6):
            for some in itertools.product(frames, repeat=many):
                row = tuple((name, number, 0, 1) for name, number in some)
                self.check_least(least(row), list(some))

    def test_many_small_rows(self):
        pieces = [("", 0, 0, 1), ("", 0, 0, 2), ("b", 1, 0, 1)]
        for first, step, many in itertools.product((2, 3), (1, -1, 0), (1, 2, 3)):
            pieces.append(("a", first, step, many))
        for many in range(4):
            for row in itertools.product(pieces, repeat=many):
                told = least(row)
                self.check_least(told, shown(row))
                self.assertEqual(least_of(shown(row)), told)
                self.assertEqual(least(told), told)

    def test_the_ends_of_reels(self):
        for row in ((("a", 9999, -1, 3), ("a", 9998, 1, 2)), (("a", 0, 1, 3), ("a", 1, -1, 2), ("a", 0, 0, 2))):
            self.check_least(least(row), shown(row))
        for row in FULL_ROWS[:3]:
            self.assertEqual(shown(least(row)), shown(row))


class LeastOf(unittest.TestCase):
    def test_frames_stay_as_they_are(self):
        for row in ROWS:
            frames = shown(row)
            told = least_of(frames)
            self.assertEqual(told, least(row))
            self.assertEqual(frames, shown(row))
            self.assertEqual(least_of(frames), told)

    def test_ends(self):
        self.assertEqual(least_of([]), ())
        self.assertEqual(least_of([("", 0)] * 3000), (("", 0, 0, 3000),))
        self.assertEqual(least_of([("abcdef", 0), ("a", 9999)]), (("abcdef", 0, 0, 1), ("a", 9999, 0, 1)))

    def test_no_films(self):
        no_frames = (
            None, True, 0, "", "ab", "a0", (), [], ("ab",), ("ab", 1, 1), ["ab", 1], (("ab", 1),), ("ab", 5, 1, 3),
            ("abcdefg", 1), ("A", 1), ("a1", 1), ("-", 0), (None, 0), (0, 0), ([], 0), ("ab", -1), ("ab", 10000),
            ("ab", HUGE), ("ab", True), ("ab", False), ("ab", None), ("ab", "1"), ("ab", [1]),
            ("", 1), ("", -1), ("", False), ("", None), ("", ""),
        )
        for frame in no_frames:
            for frames in ([frame], [("ab", 1), frame], [frame, ("ab", 1)]):
                self.assertEqual(refusal(least_of, frames), BadFilm)
        for thing in (None, True, False, 0, 1, HUGE, "", "ab", (), (("ab", 1),), (("ab", 5, 1, 3),), ("ab", 1)):
            self.assertEqual(refusal(least_of, thing), BadFilm)

    def test_too_many_frames(self):
        self.assertEqual(refusal(least_of, [("", 0)] * 3001), BadFilm)
        self.assertEqual(refusal(least_of, [("a", number) for number in range(3001)]), BadFilm)
