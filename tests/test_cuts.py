"""2.1, 2.2, 0.2 (b), 0.3: cuts."""

import itertools
import unittest

from cutroom.cuts import cut_out, laid_over, lifted, moved, parted, put_in, taken, turned_about
from cutroom.errors import BadRow, NoPlace, TooLong
from cutroom.rows import checked, film, length
from tests.samples import FULL_ROWS, HUGE, NO_ROWS, NO_WHOLE_NUMBERS, ROWS, refusal, shown

ROW = (("ab", 5, 1, 3), ("c", 9, -1, 4), ("", 0, 0, 2))
MORE = (("d", 1, 0, 2), ("d", 1, 1, 1))
OTHERS = ((), (("d", 1, 1, 1),), MORE, (("ab", 6, 1, 2), ("", 0, 0, 3)))
SPANS = (cut_out, taken, lifted)


def marked(row, *places):
    # Each frame with its step and whether a piece begins with it; a row is parted by one more such mark.
    frames = []
    for piece in row:
        step = piece[2]
        frames.extend([frame, step, k == 0] for k, frame in enumerate(shown((piece,))))
    for place in places:
        if place < len(frames):
            frames[place][2] = True
    return frames


def gathered(frames):
    pieces = []
    for (name, number), step, begins in frames:
        if begins:
            pieces.append((name, number, step, 1))
        else:
            pieces[-1] = pieces[-1][:3] + (pieces[-1][3] + 1,)
    return tuple(pieces)


def places_of(row):
    return range(len(shown(row)) + 1)


def spans_of(row):
    return [(place, many) for place in places_of(row) for many in range(len(shown(row)) - place + 1)]


class Parted(unittest.TestCase):
    def test_plain_ones(self):
        self.assertEqual(parted(ROW, 0), ((), ROW))
        self.assertEqual(parted(ROW, 1), ((("ab", 5, 1, 1),), (("ab", 6, 1, 2),) + ROW[1:]))
        self.assertEqual(parted(ROW, 3), (ROW[:1], ROW[1:]))
        self.assertEqual(parted(ROW, 4), (ROW[:1] + (("c", 9, -1, 1),), (("c", 8, -1, 3),) + ROW[2:]))
        self.assertEqual(parted(ROW, 8), (ROW[:2] + (("", 0, 0, 1),), (("", 0, 0, 1),)))
        self.assertEqual(parted(ROW, 9), (ROW, ()))
        self.assertEqual(parted((("a", 7, 0, 5),), 2), ((("a", 7, 0, 2),), (("a", 7, 0, 3),)))
        self.assertEqual(parted((), 0), ((), ()))

    def test_each_row_at_each_place(self):
        for row in ROWS:
            for place in places_of(row):
                with self.subTest(row, place=place):
                    frames = marked(row, place)
                    told = parted(row, place)
                    self.assertEqual(told, (gathered(frames[:place]), gathered(frames[place:])))
                    self.assertEqual(film(told[0]) + film(told[1]), shown(row))

    def test_full_rows(self):
        self.assertEqual(parted(FULL_ROWS[0], 3000), (FULL_ROWS[0], ()))
        self.assertEqual(parted(FULL_ROWS[0], 1), ((("a", 0, 0, 1),), (("a", 0, 0, 2999),)))
        self.assertEqual(refusal(parted, FULL_ROWS[0], 3001), NoPlace)


class PutIn(unittest.TestCase):
    def test_plain_ones(self):
        self.assertEqual(put_in(ROW, 0, MORE), MORE + ROW)
        self.assertEqual(put_in(ROW, 9, MORE), ROW + MORE)
        self.assertEqual(put_in(ROW, 3, MORE), ROW[:1] + MORE + ROW[1:])
        self.assertEqual(put_in(ROW, 2, MORE), (("ab", 5, 1, 2),) + MORE + (("ab", 7, 1, 1),) + ROW[1:])

    def test_an_empty_row_parts_too(self):
        self.assertEqual(put_in(ROW, 2, ()), (("ab", 5, 1, 2), ("ab", 7, 1, 1)) + ROW[1:])
        self.assertEqual(put_in((), 0, ()), ())
        self.assertEqual(put_in((), 0, MORE), MORE)

    def test_each_place(self):
        for row, more in itertools.product(ROWS, OTHERS):
            for place in places_of(row):
                with self.subTest(row, place=place, more=more):
                    frames = marked(row, place)
                    told = put_in(row, place, more)
                    self.assertEqual(told, gathered(frames[:place] + marked(more) + frames[place:]))
                    self.assertEqual(film(cut_out(told, place, length(more))), shown(row))
                    self.assertEqual(taken(told, place, length(more)), more)

    def test_too_long(self):
        for row in FULL_ROWS:
            self.assertEqual(refusal(put_in, row, 1500, (("b", 1, 1, 1),)), TooLong)
            self.assertEqual(refusal(put_in, (("b", 1, 1, 1),), 0, row), TooLong)
            self.assertEqual(length(put_in(row, 1500, ())), 3000)
            self.assertEqual(put_in((), 0, row), row)
        row = (("a", 0, 0, 2999),)
        self.assertEqual(put_in(row, 2999, (("b", 1, 1, 1),)), row + (("b", 1, 1, 1),))
        self.assertEqual(refusal(put_in, row, 0, (("b", 1, 1, 2),)), TooLong)


class LaidOver(unittest.TestCase):
    def test_plain_ones(self):
        self.assertEqual(laid_over(ROW, 0, MORE), MORE + ROW[1:])
        self.assertEqual(laid_over(ROW, 1, MORE), (("ab", 5, 1, 1),) + MORE + (("c", 8, -1, 3), ("", 0, 0, 2)))
        self.assertEqual(laid_over(ROW, 6, MORE), ROW[:1] + (("c", 9, -1, 3),) + MORE)
        self.assertEqual(laid_over((("a", 1, 1, 9),), 2, MORE), (("a", 1, 1, 2),) + MORE + (("a", 6, 1, 4),))

    def test_beyond_the_end(self):
        self.assertEqual(laid_over(ROW, 8, MORE), ROW[:2] + (("", 0, 0, 1),) + MORE)
        self.assertEqual(laid_over(ROW, 9, MORE), ROW + MORE)
        self.assertEqual(laid_over((), 0, MORE), MORE)

    def test_an_empty_row_parts_too(self):
        self.assertEqual(laid_over(ROW, 2, ()), (("ab", 5, 1, 2), ("ab", 7, 1, 1)) + ROW[1:])
        self.assertEqual(laid_over(ROW, 9, ()), ROW)
        self.assertEqual(laid_over((), 0, ()), ())

    def test_each_place(self):
        for row, more in itertools.product(ROWS, OTHERS):
            for place in places_of(row):
                with self.subTest(row, place=place, more=more):
                    end = place + len(shown(more))
                    frames = marked(row, place, end)
                    told = laid_over(row, place, more)
                    self.assertEqual(told, gathered(frames[:place] + marked(more) + frames[end:]))
                    self.assertEqual(film(told), shown(row)[:place] + shown(more) + shown(row)[end:])

    def test_too_long(self):
        more = (("b", 1, 1, 2),)
        for row in FULL_ROWS:
            self.assertEqual(film(laid_over(row, 2998, more)), shown(row)[:2998] + shown(more))
            self.assertEqual(refusal(laid_over, row, 2999, more), TooLong)
            self.assertEqual(refusal(laid_over, row, 3000, more), TooLong)
            self.assertEqual(laid_over(row, 0, row), row)
            self.assertEqual(refusal(laid_over, more, 1, row), TooLong)
            self.assertEqual(laid_over(more, 0, row), row)


class CutOutTakenLifted(unittest.TestCase):
    def test_plain_ones(self):
        self.assertEqual(cut_out(ROW, 1, 4), (("ab", 5, 1, 1), ("c", 7, -1, 2), ("", 0, 0, 2)))
        self.assertEqual(taken(ROW, 1, 4), (("ab", 6, 1, 2), ("c", 9, -1, 2)))
        self.assertEqual(lifted(ROW, 1, 4), (("ab", 5, 1, 1), ("", 0, 0, 4), ("c", 7, -1, 2), ("", 0, 0, 2)))

    def test_within_one_piece(self):
        row = (("a", 5, -1, 6),)
        self.assertEqual(cut_out(row, 2, 3), (("a", 5, -1, 2), ("a", 0, -1, 1)))
        self.assertEqual(taken(row, 2, 3), (("a", 3, -1, 3),))
        self.assertEqual(lifted(row, 2, 3), (("a", 5, -1, 2), ("", 0, 0, 3), ("a", 0, -1, 1)))

    def test_nothing_is_joined(self):
        row = (("", 0, 0, 2), ("a", 5, 1, 2), ("", 0, 0, 2))
        self.assertEqual(cut_out(row, 2, 2), (("", 0, 0, 2), ("", 0, 0, 2)))
        self.assertEqual(lifted(row, 2, 2), (("", 0, 0, 2), ("", 0, 0, 2), ("", 0, 0, 2)))

    def test_all(self):
        self.assertEqual(cut_out(ROW, 0, 9), ())
        self.assertEqual(taken(ROW, 0, 9), ROW)
        self.assertEqual(lifted(ROW, 0, 9), (("", 0, 0, 9),))

    def test_no_frame(self):
        parts = (("ab", 5, 1, 2), ("ab", 7, 1, 1)) + ROW[1:]
        self.assertEqual(cut_out(ROW, 2, 0), parts)
        self.assertEqual(lifted(ROW, 2, 0), parts)
        self.assertEqual(taken(ROW, 2, 0), ())
        for row in (ROW, ()):
            self.assertEqual(cut_out(row, length(row), 0), row)
            self.assertEqual(lifted(row, length(row), 0), row)
            self.assertEqual(taken(row, length(row), 0), ())

    def test_each_span(self):
        for row in ROWS:
            for place, many in spans_of(row):
                with self.subTest(row, place=place, many=many):
                    end = place + many
                    frames = marked(row, place, end)
                    black = marked((("", 0, 0, many),)) if many else []
                    self.assertEqual(cut_out(row, place, many), gathered(frames[:place] + frames[end:]))
                    self.assertEqual(taken(row, place, many), gathered(frames[place:end]))
                    self.assertEqual(lifted(row, place, many), gathered(frames[:place] + black + frames[end:]))
                    self.assertEqual(film(lifted(row, place, many))[place:end], [("", 0)] * many)

    def test_no_place(self):
        for row, call in itertools.product(ROWS, SPANS):
            size = len(shown(row))
            for place in places_of(row):
                for many in NO_WHOLE_NUMBERS + (-1, size - place + 1, HUGE, -HUGE):
                    self.assertEqual(refusal(call, row, place, many), NoPlace)
            for place in NO_WHOLE_NUMBERS + (-1, size + 1, HUGE, -HUGE):
                for many in (0, 1, -1, None):
                    self.assertEqual(refusal(call, row, place, many), NoPlace)


class Moved(unittest.TestCase):
    def test_plain_ones(self):
        self.assertEqual(moved(ROW, 0, 3, 6), ROW[1:] + ROW[:1])
        self.assertEqual(moved(ROW, 3, 4, 0), (ROW[1], ROW[0], ROW[2]))
        self.assertEqual(moved(ROW, 7, 2, 4),
                         (("ab", 5, 1, 3), ("c", 9, -1, 1), ("", 0, 0, 2), ("c", 8, -1, 3)))
        self.assertEqual(moved(ROW, 1, 1, 1), (("ab", 5, 1, 1), ("ab", 6, 1, 1), ("ab", 7, 1, 1)) + ROW[1:])

    def test_no_frame(self):
        self.assertEqual(moved(ROW, 1, 0, 2), (("ab", 5, 1, 1), ("ab", 6, 1, 1), ("ab", 7, 1, 1)) + ROW[1:])
        self.assertEqual(moved(ROW, 1, 0, 9), (("ab", 5, 1, 1), ("ab", 6, 1, 2)) + ROW[1:])
        self.assertEqual(moved((), 0, 0, 0), ())

    def test_all(self):
        self.assertEqual(moved(ROW, 0, 9, 0), ROW)
        self.assertEqual(refusal(moved, ROW, 0, 9, 1), NoPlace)

    def test_each_span_to_each_goal_and_back(self):
        for row in ROWS:
            for place, many in spans_of(row):
                for goal in range(len(shown(row)) - many + 1):
                    self.check_moved(row, place, many, goal)

    def check_moved(self, row, place, many, goal):
        frames = marked(row, place, place + many)
        left = frames[:place] + frames[place + many:]
        left = marked(gathered(left), goal)
        told = moved(row, place, many, goal)
        self.assertEqual(told, gathered(left[:goal] + frames[place:place + many] + left[goal:]))
        self.assertEqual(film(moved(told, goal, many, place)), shown(row))

    def test_no_place(self):
        for row in ROWS:
            size = len(shown(row))
            for place, many in spans_of(row):
                for goal in NO_WHOLE_NUMBERS + (-1, size - many + 1, HUGE, -HUGE):
                    self.assertEqual(refusal(moved, row, place, many, goal), NoPlace)
            for wrong in NO_WHOLE_NUMBERS + (-1, size + 1):
                self.assertEqual(refusal(moved, row, wrong, 0, 0), NoPlace)
                self.assertEqual(refusal(moved, row, 0, wrong, 0), NoPlace)
            self.assertEqual(refusal(moved, row, size, 1, 0), NoPlace)

    def test_full_rows(self):
        for row in FULL_ROWS:
            frames = shown(row)
            self.assertEqual(film(moved(row, 10, 20, 2980)), frames[:10] + frames[30:] + frames[10:30])


class TurnedAbout(unittest.TestCase):
    def test_plain_ones(self):
        self.assertEqual(turned_about(()), ())
        self.assertEqual(turned_about(ROW), (("", 0, 0, 2), ("c", 6, 1, 4), ("ab", 7, -1, 3)))
        self.assertEqual(turned_about((("a", 9999, 1, 1),)), (("a", 9999, -1, 1),))
        self.assertEqual(turned_about((("a", 7, 0, 3),)), (("a", 7, 0, 3),))

    def test_each_row(self):
        for row in ROWS + FULL_ROWS:
            with self.subTest(row[:3]):
                told = turned_about(row)
                self.assertEqual(checked(told), told)
                self.assertEqual(film(told), shown(row)[::-1])
                self.assertEqual([piece[3] for piece in told], [piece[3] for piece in row][::-1])
                self.assertEqual(turned_about(told), row)


class Refusals(unittest.TestCase):
    def test_bad_row_first(self):
        for row in NO_ROWS:
            self.assertEqual(refusal(turned_about, row), BadRow)
            for place in (0, -1, None):
                self.assertEqual(refusal(parted, row, place), BadRow)
                self.assertEqual(refusal(moved, row, place, 0, 0), BadRow)
                self.assertEqual(refusal(moved, row, 0, 0, place), BadRow)
                for call in SPANS:
                    self.assertEqual(refusal(call, row, place, 0), BadRow)
                    self.assertEqual(refusal(call, row, 0, place), BadRow)

    def test_bad_row_of_either(self):
        for row, call in itertools.product(NO_ROWS, (put_in, laid_over)):
            for place in (0, -1, None):
                self.assertEqual(refusal(call, row, place, MORE), BadRow)
                self.assertEqual(refusal(call, ROW, place, row), BadRow)
                self.assertEqual(refusal(call, row, place, row), BadRow)

    def test_no_place(self):
        for row in ROWS:
            for place in NO_WHOLE_NUMBERS + (-1, len(shown(row)) + 1, HUGE, -HUGE):
                self.assertEqual(refusal(parted, row, place), NoPlace)
                self.assertEqual(refusal(put_in, row, place, MORE), NoPlace)
                self.assertEqual(refusal(laid_over, row, place, MORE), NoPlace)
                self.assertEqual(refusal(put_in, row, place, ()), NoPlace)
                self.assertEqual(refusal(laid_over, row, place, ()), NoPlace)

    def test_no_place_ahead_of_too_long(self):
        for row, place in itertools.product(FULL_ROWS, (-1, 3001, None, True, "0")):
            self.assertEqual(refusal(put_in, row, place, row), NoPlace)
            self.assertEqual(refusal(laid_over, row, place, row), NoPlace)
