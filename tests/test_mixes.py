"""11.1, 0.3: mixes."""

import itertools
import random
import unittest

from cutroom.errors import BadMix, BadRow, BadShelf, NoPiece, OffReel, TooShort
from cutroom.mixes import mixed_film, rooms
from tests.samples import HUGE, NO_ROWS, NO_SHELVES, NO_WHOLE_NUMBERS, ROWS, any_row, refusal, shown

SHELF = (("a", 12), ("b", 9), ("c", 20))
WIDE = (("ab", 10000), ("c", 10000), ("d", 9999))
BLACK = ("", 0)

# Pieces run on, back, held and black, with their reel's end near, far, or reached; of one frame and of more.
PIECES = (
    ("a", 0, 1, 4), ("a", 6, 1, 4), ("a", 9, 1, 3), ("b", 8, -1, 4), ("b", 3, -1, 2), ("b", 2, -1, 3),
    ("c", 0, 0, 3), ("c", 19, 0, 2), ("", 0, 0, 5), ("", 0, 0, 1), ("c", 18, 1, 1), ("c", 1, -1, 1), ("c", 9, 0, 1),
)

NO_MIXES_ALONE = tuple((number, 1) for number in NO_WHOLE_NUMBERS + (-1, -HUGE)) + tuple(
    (0, many) for many in NO_WHOLE_NUMBERS + (0, -1, 3001, HUGE, -HUGE)
) + (None, True, 0, 1, HUGE, "", "ab", (), (0,), (0, 1, 1), [], [0, 1], ((0, 1),), [(0, 1)], (None, None), (-1, 0))
NO_MIXES = tuple((mix,) for mix in NO_MIXES_ALONE) + tuple(((0, 1), mix) for mix in NO_MIXES_ALONE) + tuple(
    (mix, (7, 1)) for mix in NO_MIXES_ALONE
) + (
    None, True, False, 0, 1, HUGE, "", "ab", [], [(0, 1)], (0, 1), [[0, 1]], [(1, 1), (0, 1)],
    # numbers that don't rise
    ((0, 1), (0, 1)), ((0, 1), (0, 2)), ((1, 1), (0, 1)), ((0, 1), (2, 1), (1, 1)), ((0, 1), (1, 1), (1, 2)),
    ((HUGE, 1), (HUGE, 1)), ((HUGE, 1), (0, 1)),
)


def frames_on(shelf):
    return {(name, number) for name, many in shelf for number in range(many)} | {BLACK}


def gone_on(piece, many):
    name, first, step, frames = piece
    return shown(((name, first, step, frames + many),))[frames:]


def room(shelf, piece, next_piece):
    # Goes on frame by frame, as long as the shelf has the frame and the next piece one beside it.
    there = frames_on(shelf)
    many = 0
    while many < next_piece[3] and gone_on(piece, many + 1)[many] in there:
        many += 1
    return many


def reckoned(row, mixes):
    frames = shown(row)
    for number, many in mixes:
        begin = len(shown(row[:number + 1]))
        for k, frame in enumerate(gone_on(row[number], many)):
            frames[begin + k] = (frame, frames[begin + k], k + 1, many + 1)
    return frames


def wrong_with(shelf, row, mixes):
    for number, many in mixes:
        if number > len(row) - 2:
            return NoPiece
        if many > row[number + 1][3]:
            return TooShort
        if not frames_on(shelf).issuperset(gone_on(row[number], many)):
            return OffReel
    return None


class Mixed(unittest.TestCase):
    def check_mixed(self, row, mixes):
        wrong = wrong_with(SHELF, row, mixes)
        self.assertEqual(refusal(mixed_film, SHELF, row, mixes), wrong, (row, mixes))
        if wrong is None:
            told = mixed_film(SHELF, row, mixes)
            self.assertEqual(told, reckoned(row, mixes))
            self.assertIs(type(told), list)
        return wrong

    def test_each_two_pieces(self):
        met = set()
        for row in itertools.product(PIECES, repeat=2):
            for number, many in itertools.product((0, 1), range(1, 7)):
                met.add(self.check_mixed(row, ((number, many),)))
        self.assertEqual(met, {None, NoPiece, TooShort, OffReel})

    def test_several_joins(self):
        chance = random.Random(12)
        met = set()
        for turn in range(1500):
            row = any_row(chance, SHELF, chance.randrange(6), 5)
            numbers = sorted(chance.sample(range(6), chance.randrange(4)))
            mixes = tuple((number, chance.randrange(1, 4)) for number in numbers)
            met.add(self.check_mixed(row, mixes))
            # All mixes as long as there is room for.
            mixes = tuple((number, many) for number, many in enumerate(rooms(SHELF, row)) if many > 0)
            self.assertIsNone(self.check_mixed(row, mixes))
        self.assertEqual(met, {None, NoPiece, TooShort, OffReel})

    def test_plain_ones(self):
        row = (("a", 2, 1, 3), ("b", 6, -1, 2), ("c", 7, 0, 2), ("", 0, 0, 2), ("a", 9, 0, 1))
        frames = shown(row)
        self.assertEqual(mixed_film(SHELF, row, ((0, 1),)), frames[:3] + [(("a", 5), ("b", 6), 1, 2)] + frames[4:])
        self.assertEqual(
            mixed_film(SHELF, row, ((0, 2),)),
            frames[:3] + [(("a", 5), ("b", 6), 1, 3), (("a", 6), ("b", 5), 2, 3)] + frames[5:],
        )
        self.assertEqual(
            mixed_film(SHELF, row, ((1, 2),)),
            frames[:5] + [(("b", 4), ("c", 7), 1, 3), (("b", 3), ("c", 7), 2, 3)] + frames[7:],
        )
        self.assertEqual(
            mixed_film(SHELF, row, ((2, 1), (3, 1))),
            frames[:7] + [(("c", 7), BLACK, 1, 2), BLACK, (BLACK, ("a", 9), 1, 2)],
        )
        # Side by side: the piece between is mixed itself, but what goes on behind it is not.
        self.assertEqual(
            mixed_film(SHELF, row, ((0, 2), (1, 1))),
            frames[:3] + [(("a", 5), ("b", 6), 1, 3), (("a", 6), ("b", 5), 2, 3), (("b", 4), ("c", 7), 1, 2)]
            + frames[6:],
        )

    def test_a_piece_of_one_frame_goes_on_along_its_step(self):
        for step in (1, -1, 0):
            row = (("a", 5, step, 1), ("c", 0, 0, 2))
            self.assertEqual(
                mixed_film(SHELF, row, ((0, 2),)),
                [("a", 5), (("a", 5 + step), ("c", 0), 1, 3), (("a", 5 + 2 * step), ("c", 0), 2, 3)],
            )

    def test_without_mixes(self):
        for row in ROWS:
            self.assertEqual(mixed_film(WIDE, row, ()), shown(row))

    def test_the_longest_mix(self):
        row = (("ab", 6998, 1, 1), ("", 0, 0, 2999))
        told = mixed_film(WIDE, row, ((0, 2999),))
        self.assertEqual((told[0], told[1]), (("ab", 6998), (("ab", 6999), BLACK, 1, 3000)))
        self.assertEqual((len(told), told[-1]), (3000, (("ab", 9997), BLACK, 2999, 3000)))
        self.assertEqual(refusal(mixed_film, WIDE, row, ((0, 3000),)), TooShort)
        self.assertEqual(refusal(mixed_film, WIDE, row, ((0, 3001),)), BadMix)
        self.assertEqual(refusal(mixed_film, WIDE, (("ab", 7001, 1, 1), row[1]), ((0, 2999),)), OffReel)

    def test_goes_on_to_the_last_frame_of_a_reel(self):
        for piece, many in (
            (("d", 9990, 1, 5), 4), (("ab", 9990, 1, 5), 5), (("ab", 9, -1, 5), 5), (("c", 4, -1, 5), 0),
        ):
            row = (piece, ("c", 0, 0, 9))
            self.assertEqual(rooms(WIDE, row), (many,))
            if many > 0:
                self.assertEqual(mixed_film(WIDE, row, ((0, many),)), reckoned(row, ((0, many),)))
            self.assertEqual(refusal(mixed_film, WIDE, row, ((0, many + 1),)), OffReel)

    def test_what_is_told_is_new(self):
        row = (("a", 2, 1, 3), ("b", 6, -1, 2))
        mixed_film(SHELF, row, ((0, 1),)).reverse()
        self.assertEqual(mixed_film(SHELF, row, ((0, 1),)), reckoned(row, ((0, 1),)))


class Rooms(unittest.TestCase):
    def test_each_two_pieces(self):
        for row in itertools.product(PIECES, repeat=2):
            self.assertEqual(rooms(SHELF, row), (room(SHELF, *row),), row)

    def test_a_mix_of_so_many_can_be_and_one_of_one_more_not(self):
        chance = random.Random(13)
        for turn in range(400):
            row = any_row(chance, SHELF, chance.randrange(7), 5)
            told = rooms(SHELF, row)
            self.assertEqual(told, tuple(room(SHELF, row[k], row[k + 1]) for k in range(len(row) - 1)))
            for number, many in enumerate(told):
                if many > 0:
                    self.assertIsNone(refusal(mixed_film, SHELF, row, ((number, many),)))
                self.assertIn(refusal(mixed_film, SHELF, row, ((number, many + 1),)), (TooShort, OffReel))

    def test_none_and_one_piece(self):
        self.assertEqual(rooms(SHELF, ()), ())
        for piece in PIECES:
            self.assertEqual(rooms(SHELF, (piece,)), ())


class RefusalsInOrder(unittest.TestCase):
    ROW = (("a", 2, 1, 3), ("b", 6, -1, 2), ("c", 19, 1, 1), ("", 0, 0, 2))

    def test_bad_shelf(self):
        for shelf in NO_SHELVES:
            for row in ((), None, self.ROW):
                self.assertEqual(refusal(mixed_film, shelf, row, None), BadShelf)
                self.assertEqual(refusal(mixed_film, shelf, row, ()), BadShelf)
                self.assertEqual(refusal(rooms, shelf, row), BadShelf)

    def test_bad_row(self):
        for row in NO_ROWS:
            self.assertEqual(refusal(mixed_film, SHELF, row, ()), BadRow)
            self.assertEqual(refusal(mixed_film, SHELF, row, None), BadRow)
            self.assertEqual(refusal(rooms, SHELF, row), BadRow)

    def test_off_reel_ahead_of_bad_mix(self):
        for piece in (("a", 12, 0, 1), ("a", 10, 1, 3), ("b", 9, -1, 2), ("zz", 0, 0, 1)):
            for row in ((piece,), self.ROW + (piece,), (piece,) + self.ROW):
                self.assertEqual(refusal(rooms, SHELF, row), OffReel)
                for mixes in ((), None, ((0, 0),), ((9, 1),), ((0, 1),)):
                    self.assertEqual(refusal(mixed_film, SHELF, row, mixes), OffReel)

    def test_bad_mix(self):
        for mixes in NO_MIXES:
            for row in ((), self.ROW):
                self.assertEqual(refusal(mixed_film, SHELF, row, mixes), BadMix, mixes)

    def test_bad_mix_behind_one_without_room(self):
        self.assertEqual(refusal(mixed_film, SHELF, self.ROW, ((0, 3), (0, 1))), BadMix)
        self.assertEqual(refusal(mixed_film, SHELF, self.ROW, ((2, 1), (9, 3001))), BadMix)

    def test_no_piece(self):
        for number in (3, 4, 5, 2999, 3000, 3001, HUGE):
            for many in (1, 2, 3000):
                self.assertEqual(refusal(mixed_film, SHELF, self.ROW, ((number, many),)), NoPiece)
        for row in ((), self.ROW[:1]):
            self.assertEqual(refusal(mixed_film, SHELF, row, ((0, 1),)), NoPiece)

    def test_too_short_ahead_of_off_reel(self):
        self.assertEqual(refusal(mixed_film, SHELF, self.ROW, ((2, 2),)), OffReel)
        self.assertEqual(refusal(mixed_film, SHELF, self.ROW, ((2, 3),)), TooShort)
        self.assertEqual(refusal(mixed_film, SHELF, self.ROW, ((0, 2),)), None)
        self.assertEqual(refusal(mixed_film, SHELF, self.ROW, ((0, 3000),)), TooShort)

    def test_the_first_mix_without_room(self):
        for mixes, wrong in (
            (((0, 2), (1, 2), (2, 1)), TooShort),
            (((0, 2), (1, 1), (2, 1)), OffReel),
            (((0, 3), (2, 1), (3, 1)), TooShort),
            (((2, 1), (3, 1)), OffReel),
            (((0, 1), (3, 1)), NoPiece),
        ):
            self.assertEqual(refusal(mixed_film, SHELF, self.ROW, mixes), wrong)
