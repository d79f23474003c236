"""3.1, 3.2, 3.3, 0.2 (c), 0.3: trims."""

import functools
import itertools
import unittest

from cutroom.cuts import in_two
from cutroom.errors import BadCount, BadRow, BadShelf, NoJoin, NoPiece, OffReel, TooLong, TooShort
from cutroom.rows import checked, film, length
from cutroom.trims import head_trimmed, healed, is_of, rolled, slid, slipped, tail_trimmed
from tests.samples import (
    FULL_ROWS, HUGE, NAMES, NO_ROWS, NO_SHELVES, NO_WHOLE_NUMBERS, ROWS, can_be_one, refusal, shown,
)

FIVE = (head_trimmed, tail_trimmed, slipped, rolled, slid)
SHELF = (("a", 12), ("b", 9), ("c", 20))
WIDE = (("a", 10000), ("ab", 10000), ("c", 10000))

# Pieces run on, run back, held and black, near a reel's two ends and within it, of one frame and of more.
PIECES = (
    ("a", 0, 1, 4), ("a", 8, 1, 4), ("a", 5, 1, 3), ("b", 3, -1, 4), ("b", 8, -1, 2), ("b", 5, -1, 2),
    ("c", 0, 0, 3), ("c", 19, 0, 2), ("", 0, 0, 5), ("", 0, 0, 1), ("c", 9, 1, 1), ("c", 9, -1, 1),
)
PIECES_AS_ROWS = tuple((("z", 1, 1, 2), piece, ("z", 1, 1, 2)) for piece in PIECES)
NUMBERS = range(-6, 7)


def beyond(piece, begin, end):
    # A piece goes on along its step to both sides; what it shows then is told from begin to end.
    name, first, step, many = piece
    return (name, first + step * begin, step, end - begin)


def reckoned(call, row, number, by):
    # The row that is asked for, whatever the shelf says to it.
    pieces = list(row)

    def head(at):
        pieces[at] = beyond(pieces[at], by, pieces[at][3])

    def tail(at):
        pieces[at] = beyond(pieces[at], 0, pieces[at][3] + by)

    if call is head_trimmed:
        head(number)
    elif call is tail_trimmed:
        tail(number)
    elif call is slipped:
        name, first, step, many = pieces[number]
        pieces[number] = (name, first + by, step, many)
    elif call is rolled:
        tail(number)
        head(number + 1)
    else:
        tail(number - 1)
        head(number + 1)
    return tuple(pieces)


def has_neighbours(call, row, number):
    low = 1 if call is slid else 0
    high = len(row) - (2 if call in (rolled, slid) else 1)
    return low <= number <= high


@functools.cache
def frames_on(shelf):
    return {(name, number) for name, many in shelf for number in range(many)} | {("", 0)}


def wrong_with(shelf, row):
    if any(many < 1 for name, first, step, many in row):
        return TooShort
    if not frames_on(shelf).issuperset(shown(row)):
        return OffReel
    if len(shown(row)) > 3000:
        return TooLong
    return None


class Shelves(unittest.TestCase):
    def test_no_shelves(self):
        for number, shelf in enumerate(NO_SHELVES):
            for row in ((), (("a", 0, 0, 1),), None):
                with self.subTest(number=number):
                    self.assertEqual(refusal(is_of, shelf, row), BadShelf)
            for call in FIVE:
                self.assertEqual(refusal(call, shelf, None, None, None), BadShelf)
                self.assertEqual(refusal(call, shelf, (("a", 0, 0, 1),) * 3, 1, 0), BadShelf)

    def test_shelves_of_1_and_12_reels(self):
        self.assertIs(is_of((("a", 1),), (("a", 0, 0, 1),)), True)
        self.assertIs(is_of((("a", 10000),), (("a", 9999, 0, 1),)), True)
        shelf = tuple((name, 5) for name in NAMES[:12])
        self.assertIs(is_of(shelf, tuple((name, 0, 1, 5) for name in NAMES[:12])), True)
        self.assertIs(is_of(shelf, ((NAMES[12], 0, 1, 5),)), False)

    def test_last_frame_of_a_reel(self):
        shelf = (("a", 3), ("b", 10))
        for piece, told in (
            (("a", 2, 0, 5), True), (("a", 3, 0, 1), False), (("a", 0, 1, 3), True), (("a", 0, 1, 4), False),
            (("a", 2, -1, 3), True), (("a", 3, -1, 2), False), (("b", 9, -1, 10), True), (("b", 10, -1, 2), False),
            (("b", 3, 1, 7), True), (("b", 3, 1, 8), False), (("aa", 0, 0, 1), False), (("", 0, 0, 2900), True),
        ):
            with self.subTest(piece):
                self.assertIs(is_of(shelf, (piece,)), told)
                self.assertIs(is_of(shelf, (("b", 0, 0, 1), ("", 0, 0, 1), piece)), told)
                self.assertIs(is_of(shelf, (piece, ("b", 0, 0, 1))), told)

    def test_rows_without_frames_of_reels(self):
        for row in ((), (("", 0, 0, 1),), (("", 0, 0, 2), ("", 0, 0, 2))):
            self.assertIs(is_of((("zz", 1),), row), True)

    def test_bad_row(self):
        for row in NO_ROWS:
            self.assertEqual(refusal(is_of, SHELF, row), BadRow)


class TheFive(unittest.TestCase):
    def check_one(self, shelf, call, row, number, by):
        want = reckoned(call, row, number, by)
        wrong = wrong_with(shelf, want)
        self.assertEqual(refusal(call, shelf, row, number, by), wrong, (call.__name__, row, number, by))
        if wrong is None:
            told = call(shelf, row, number, by)
            self.assertEqual(told, want)
            self.assertEqual(checked(told), told)
            self.assertEqual(call(shelf, told, number, -by), row)
            if call in (slipped, rolled, slid):
                self.assertEqual(length(told), length(row))
            if call is slid:
                self.assertEqual(told[number], row[number])
        return wrong

    def test_each_piece_first_middle_and_last(self):
        met = set()
        for pieces in itertools.product(PIECES, repeat=3):
            number = sum(PIECES.index(piece) for piece in pieces) % 3
            for call, by in itertools.product(FIVE, NUMBERS):
                if has_neighbours(call, pieces, number):
                    met.add(self.check_one(SHELF, call, pieces, number, by))
        self.assertEqual(met, {None, TooShort, OffReel})

    def test_rows_of_one_and_of_two(self):
        for many in (1, 2):
            for pieces in itertools.product(PIECES, repeat=many):
                for number, call, by in itertools.product(range(many), FIVE, NUMBERS):
                    if has_neighbours(call, pieces, number):
                        self.check_one(SHELF, call, pieces, number, by)

    def test_other_pieces_stay(self):
        row = (("c", 9, 1, 2), ("a", 5, 1, 3), ("b", 5, -1, 3), ("c", 7, 0, 3), ("", 0, 0, 3))
        touched = {head_trimmed: (0,), tail_trimmed: (0,), slipped: (0,), rolled: (0, 1), slid: (-1, 1)}
        for call, number, by in itertools.product(FIVE, range(5), (-1, 1, 2)):
            if not has_neighbours(call, row, number) or (call is slipped and number == 4):
                continue
            if wrong_with(SHELF, reckoned(call, row, number, by)):
                continue
            told = call(SHELF, row, number, by)
            for at in range(5):
                if at - number not in touched[call]:
                    self.assertEqual(told[at], row[at])

    def test_plain_ones(self):
        row = (("a", 2, 1, 4), ("b", 6, -1, 3), ("c", 7, 0, 2), ("", 0, 0, 3))
        for call, number, by, want in (
            (head_trimmed, 0, 1, (("a", 3, 1, 3),) + row[1:]),
            (head_trimmed, 0, -2, (("a", 0, 1, 6),) + row[1:]),
            (head_trimmed, 1, 2, row[:1] + (("b", 4, -1, 1),) + row[2:]),
            (head_trimmed, 1, -2, row[:1] + (("b", 8, -1, 5),) + row[2:]),
            (head_trimmed, 2, 1, row[:2] + (("c", 7, 0, 1),) + row[3:]),
            (head_trimmed, 3, -4, row[:3] + (("", 0, 0, 7),)),
            (tail_trimmed, 0, 2, (("a", 2, 1, 6),) + row[1:]),
            (tail_trimmed, 0, -3, (("a", 2, 1, 1),) + row[1:]),
            (tail_trimmed, 1, 4, row[:1] + (("b", 6, -1, 7),) + row[2:]),
            (tail_trimmed, 2, 9, row[:2] + (("c", 7, 0, 11),) + row[3:]),
            (tail_trimmed, 3, -2, row[:3] + (("", 0, 0, 1),)),
            (slipped, 0, 6, (("a", 8, 1, 4),) + row[1:]),
            (slipped, 0, -2, (("a", 0, 1, 4),) + row[1:]),
            (slipped, 1, 2, row[:1] + (("b", 8, -1, 3),) + row[2:]),
            (slipped, 1, -4, row[:1] + (("b", 2, -1, 3),) + row[2:]),
            (slipped, 2, 12, row[:2] + (("c", 19, 0, 2),) + row[3:]),
            (slipped, 3, 0, row),
            (rolled, 0, 2, (("a", 2, 1, 6), ("b", 4, -1, 1)) + row[2:]),
            (rolled, 0, -2, (("a", 2, 1, 2), ("b", 8, -1, 5)) + row[2:]),
            (rolled, 1, 1, row[:1] + (("b", 6, -1, 4), ("c", 7, 0, 1), row[3])),
            (rolled, 2, -1, row[:2] + (("c", 7, 0, 1), ("", 0, 0, 4))),
            (slid, 1, 1, (("a", 2, 1, 5), row[1], ("c", 7, 0, 1), row[3])),
            (slid, 1, -3, (("a", 2, 1, 1), row[1], ("c", 7, 0, 5), row[3])),
            (slid, 2, 2, (row[0], ("b", 6, -1, 5), row[2], ("", 0, 0, 1))),
        ):
            with self.subTest(call.__name__, number=number, by=by):
                self.assertEqual(call(SHELF, row, number, by), want)
                self.assertEqual(call(SHELF, want, number, -by), row)

    def test_a_piece_of_one_frame_keeps_its_step(self):
        self.assertEqual(tail_trimmed(SHELF, (("a", 5, 1, 1),), 0, 2), (("a", 5, 1, 3),))
        self.assertEqual(tail_trimmed(SHELF, (("a", 5, -1, 1),), 0, 2), (("a", 5, -1, 3),))
        self.assertEqual(tail_trimmed(SHELF, (("a", 5, 0, 1),), 0, 2), (("a", 5, 0, 3),))
        self.assertEqual(head_trimmed(SHELF, (("a", 5, -1, 4),), 0, 3), (("a", 2, -1, 1),))

    def test_film_behind_moves(self):
        row = (("c", 9, 1, 2), ("a", 5, 1, 3), ("b", 5, -1, 3))
        frames = film(row)
        self.assertEqual(film(head_trimmed(SHELF, row, 1, 2)), frames[:2] + frames[4:])
        self.assertEqual(film(tail_trimmed(SHELF, row, 1, -2)), frames[:3] + frames[5:])
        self.assertEqual(film(tail_trimmed(SHELF, row, 1, 1)), frames[:5] + [("a", 8)] + frames[5:])
        self.assertEqual(film(head_trimmed(SHELF, row, 1, -1)), frames[:2] + [("a", 4)] + frames[2:])

    def test_black_slipped(self):
        row = (("", 0, 0, 3), ("a", 0, 1, 3), ("", 0, 0, 1))
        for number in (0, 2):
            self.assertEqual(slipped(SHELF, row, number, 0), row)
            for by in (1, -1, 5, 3000, -3000):
                self.assertEqual(refusal(slipped, SHELF, row, number, by), OffReel)

    def test_full_rows(self):
        black = (("", 0, 0, 2000), ("a", 5, 0, 999))
        self.assertEqual(tail_trimmed(WIDE, black, 0, 1), (("", 0, 0, 2001), ("a", 5, 0, 999)))
        self.assertEqual(head_trimmed(WIDE, black, 1, -1), (("", 0, 0, 2000), ("a", 5, 0, 1000)))
        for call, by in ((tail_trimmed, 2), (head_trimmed, -2), (tail_trimmed, 3000), (head_trimmed, -3000)):
            for number in (0, 1):
                self.assertEqual(refusal(call, WIDE, black, number, by), TooLong)
        for row in FULL_ROWS:
            self.assertEqual(refusal(tail_trimmed, WIDE, row, 0, 1), TooLong)
            self.assertEqual(slipped(WIDE, row, 0, 0), row)
        two = (("a", 0, 0, 1), ("", 0, 0, 2999))
        self.assertEqual(rolled(WIDE, two, 0, 2998), (("a", 0, 0, 2999), ("", 0, 0, 1)))
        self.assertEqual(refusal(rolled, WIDE, two, 0, 2999), TooShort)

    def test_one_piece_beyond_3000(self):
        row = (("a", 100, 1, 2999),)
        self.assertEqual(tail_trimmed(WIDE, row, 0, 1), (("a", 100, 1, 3000),))
        self.assertEqual(head_trimmed(WIDE, row, 0, -1), (("a", 99, 1, 3000),))
        self.assertEqual(refusal(tail_trimmed, WIDE, row, 0, 2), TooLong)
        self.assertEqual(refusal(head_trimmed, WIDE, row, 0, -2), TooLong)
        # Off the reel and too long: the shelf is asked first.
        self.assertEqual(refusal(head_trimmed, WIDE, row, 0, -101), OffReel)
        self.assertEqual(refusal(tail_trimmed, (("a", 3099),), row, 0, 2), OffReel)

    def test_the_ends_of_the_longest_reel(self):
        shelf = (("a", 10000),)
        self.assertEqual(slipped(shelf, (("a", 9997, 1, 2),), 0, 1), (("a", 9998, 1, 2),))
        self.assertEqual(refusal(slipped, shelf, (("a", 9997, 1, 2),), 0, 2), OffReel)
        self.assertEqual(tail_trimmed(shelf, (("a", 1, -1, 1),), 0, 1), (("a", 1, -1, 2),))
        self.assertEqual(refusal(tail_trimmed, shelf, (("a", 1, -1, 1),), 0, 2), OffReel)

    def test_too_short_ahead_of_off_reel(self):
        row = (("a", 0, 1, 2), ("b", 0, 1, 2), ("c", 0, 1, 2))
        self.assertEqual(refusal(head_trimmed, SHELF, row, 0, 2), TooShort)
        self.assertEqual(refusal(head_trimmed, SHELF, row, 0, 3000), TooShort)
        self.assertEqual(refusal(tail_trimmed, SHELF, row, 0, -3000), TooShort)
        self.assertEqual(refusal(rolled, SHELF, row, 0, 3000), TooShort)
        self.assertEqual(refusal(rolled, SHELF, row, 0, -2), TooShort)
        self.assertEqual(refusal(rolled, SHELF, row, 0, -1), OffReel)
        self.assertEqual(refusal(slid, SHELF, row, 1, -2), TooShort)
        self.assertEqual(refusal(slid, SHELF, row, 1, -1), OffReel)


class RefusalsInOrder(unittest.TestCase):
    ROW = (("a", 2, 1, 4), ("b", 6, -1, 3), ("c", 7, 0, 2))

    def test_bad_row(self):
        for row, call in itertools.product(NO_ROWS, FIVE):
            self.assertEqual(refusal(call, SHELF, row, 1, 0), BadRow)
            self.assertEqual(refusal(call, SHELF, row, None, None), BadRow)

    def test_row_off_the_shelf_ahead_of_no_piece(self):
        for shelf in ((("a", 12), ("b", 9)), (("a", 5), ("b", 9), ("c", 20)), (("a", 12), ("b", 6), ("c", 20))):
            for call, number, by in itertools.product(FIVE, (1, 7, None, True), (0, 1, None, 3001)):
                self.assertEqual(refusal(call, shelf, self.ROW, number, by), OffReel)

    def test_no_piece_ahead_of_bad_count(self):
        for call, by in itertools.product(FIVE, (0, 1, 3001, None, True)):
            for number in NO_WHOLE_NUMBERS + (-1, -2, -3, 3, 4, HUGE, -HUGE):
                self.assertEqual(refusal(call, SHELF, self.ROW, number, by), NoPiece)
            self.assertEqual(refusal(call, SHELF, (), 0, by), NoPiece)
        for by in (0, 1, 3001, None):
            self.assertEqual(refusal(rolled, SHELF, self.ROW, 2, by), NoPiece)
            self.assertEqual(refusal(slid, SHELF, self.ROW, 0, by), NoPiece)
            self.assertEqual(refusal(slid, SHELF, self.ROW, 2, by), NoPiece)
            self.assertEqual(refusal(slid, SHELF, self.ROW[:2], 1, by), NoPiece)
            self.assertEqual(refusal(slid, SHELF, self.ROW[:2], 0, by), NoPiece)
            self.assertEqual(refusal(rolled, SHELF, self.ROW[:1], 0, by), NoPiece)

    def test_no_trim_without_neighbours_is_asked_for(self):
        self.assertEqual(rolled(SHELF, self.ROW, 0, 0), self.ROW)
        self.assertEqual(rolled(SHELF, self.ROW, 1, 0), self.ROW)
        self.assertEqual(slid(SHELF, self.ROW, 1, 0), self.ROW)
        for call, number in itertools.product(FIVE[:3], (0, 1, 2)):
            self.assertEqual(call(SHELF, self.ROW, number, 0), self.ROW)

    def test_bad_count(self):
        for call in FIVE:
            for by in NO_WHOLE_NUMBERS + (3001, -3001, HUGE, -HUGE):
                self.assertEqual(refusal(call, SHELF, self.ROW, 1, by), BadCount)
            for by in (3000, -3000):
                self.assertIn(refusal(call, SHELF, self.ROW, 1, by), (TooShort, OffReel))


class Healed(unittest.TestCase):
    def test_parted_rows_are_healed(self):
        for row in ROWS + PIECES_AS_ROWS:
            begin = 0
            for number, piece in enumerate(row):
                for place in range(begin + 1, begin + piece[3]):
                    ahead, behind = in_two(row, place)
                    self.assertEqual(healed(ahead + behind, number), row)
                begin += piece[3]

    def test_two_of_one_frame_each(self):
        for one, other, want in (
            (("a", 5, 1, 1), ("a", 6, 1, 1), ("a", 5, 1, 2)),
            (("a", 5, 0, 1), ("a", 6, -1, 1), ("a", 5, 1, 2)),
            (("a", 5, 1, 1), ("a", 4, 0, 1), ("a", 5, -1, 2)),
            (("a", 5, 1, 1), ("a", 5, -1, 1), ("a", 5, 0, 2)),
            (("", 0, 0, 1), ("", 0, 0, 1), ("", 0, 0, 2)),
            (("a", 5, 1, 1), ("a", 7, 1, 1), None),
            (("a", 5, 1, 1), ("b", 6, 1, 1), None),
            (("", 0, 0, 1), ("a", 0, 0, 1), None),
            (("a", 1, 0, 1), ("", 0, 0, 1), None),
        ):
            for ahead, behind in itertools.product(((), (("z", 1, 1, 2),)), repeat=2):
                row = ahead + (one, other) + behind
                if want is None:
                    self.assertEqual(refusal(healed, row, len(ahead)), NoJoin)
                else:
                    self.assertEqual(healed(row, len(ahead)), ahead + (want,) + behind)

    def test_each_two(self):
        pieces = [("", 0, 0, 1), ("", 0, 0, 2), ("b", 3, 0, 1), ("b", 3, 0, 2)]
        for first, step, many in itertools.product((2, 3, 4, 5), (1, -1, 0), (1, 2, 3)):
            pieces.append(("a", first, step, many))
        for row in itertools.product(pieces, repeat=2):
            frames = shown(row)
            if can_be_one(frames):
                told = healed(row, 0)
                self.assertEqual(len(told), 1)
                self.assertEqual(shown(checked(told)), frames)
            else:
                self.assertEqual(refusal(healed, row, 0), NoJoin)

    def test_only_these_two_are_joined(self):
        row = (("a", 0, 1, 2), ("a", 2, 1, 2), ("a", 4, 1, 2))
        self.assertEqual(healed(row, 0), (("a", 0, 1, 4), ("a", 4, 1, 2)))
        self.assertEqual(healed(row, 1), (("a", 0, 1, 2), ("a", 2, 1, 4)))

    def test_full_row(self):
        self.assertEqual(healed((("a", 0, 1, 2999), ("a", 2999, -1, 1)), 0), (("a", 0, 1, 3000),))

    def test_no_piece(self):
        for row in ROWS:
            for number in NO_WHOLE_NUMBERS + (-1, -2, len(row) - 1, len(row), HUGE, -HUGE):
                self.assertEqual(refusal(healed, row, number), NoPiece)

    def test_bad_row_first(self):
        for row in NO_ROWS:
            for number in (0, 1, -1, None):
                self.assertEqual(refusal(healed, row, number), BadRow)
