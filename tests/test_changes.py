"""12.1, 0.2 (i), 0.3: changes."""

import itertools
import random
import unittest

from cutroom.changes import changes, frames_kept
from cutroom.cuts import turned_about
from cutroom.deeds import done, is_deed
from cutroom.errors import BadRow, TooLong
from cutroom.rows import film, least, least_of
from tests.samples import FULL_ROWS, NO_ROWS, ROWS, any_row, refusal, shown

SHELF = (("a", 4), ("b", 3))
LONG = (
    (("a", 0, 1, 200),), (("a", 199, -1, 200),), (("a", 0, 0, 200),), (("", 0, 0, 200),), (("a", 100, 1, 200),),
    (("a", 0, 1, 100), ("b", 0, 1, 100)), (("b", 0, 1, 100), ("a", 0, 1, 100)),
    tuple(("a", k, 0, 1) for k in range(200)), tuple(("ab"[k % 2], 0, 0, 1) for k in range(200)),
    tuple(("abc"[k % 3], 0, 0, 1) for k in range(200)),
)


def most_kept(ones, others):
    # Grows all that can be kept frame by frame: ends[k] is the earliest end in others of k + 1 frames kept so far.
    ends = []
    for frame in ones:
        places = [place for place, other in enumerate(others) if other == frame]
        for place in reversed(places):
            at = sum(end < place for end in ends)
            ends[at:at + 1] = [place]
    return len(ends)


def most_kept_of_all(ones, others):
    # Tries every choice of frames that are left.
    for many in range(min(len(ones), len(others)), 0, -1):
        left = set(itertools.combinations(others, many))
        if any(frames in left for frames in itertools.combinations(ones, many)):
            return many
    return 0


class Changes(unittest.TestCase):
    def check_changes(self, old, new):
        told = changes(old, new)
        self.assertIs(type(told), list)
        row = least(old)
        cut = put = 0
        for deed in told:
            self.assertTrue(is_deed(deed))
            self.assertIn(deed[0], ("put", "out"))
            row = done(row, deed)
            if deed[0] == "out":
                cut += len(shown(deed[2]))
            else:
                put += len(shown(deed[2]))
        self.assertEqual(film(row), shown(new))
        kept = most_kept(shown(old), shown(new))
        self.assertEqual(cut, len(shown(old)) - kept, (old, new))
        self.assertEqual(put, len(shown(new)) - kept, (old, new))
        self.assertEqual(frames_kept(old, new), kept)

    def test_small_rows_and_all_choices(self):
        frames = (("a", 0), ("a", 1), ("", 0))
        films = [list(told) for many in range(5) for told in itertools.product(frames, repeat=many)]
        for one, other in itertools.product(films, films):
            self.assertEqual(most_kept(one, other), most_kept_of_all(one, other))
        for one, other in itertools.product(films[:40], films[::2]):
            self.check_changes(least_of(one), least_of(other))
            self.check_changes(least_of(other), least_of(one))

    def test_any_rows(self):
        chance = random.Random(14)
        for turn in range(300):
            old, new = [any_row(chance, SHELF, chance.randrange(8), 6) for row in range(2)]
            self.check_changes(old, new)

    def test_samples(self):
        for old, new in itertools.product(ROWS, ROWS):
            self.check_changes(old, new)

    def test_alike_in_films_but_not_in_pieces(self):
        for row in ROWS + LONG:
            pieces = tuple((name, number, 0, 1) for name, number in shown(row))
            for old, new in itertools.product((row, pieces, least(row)), repeat=2):
                self.assertEqual(changes(old, new), [])
                self.assertEqual(frames_kept(old, new), len(pieces))

    def test_empty_rows(self):
        self.assertEqual(changes((), ()), [])
        self.assertEqual(frames_kept((), ()), 0)
        for row in ROWS[1:] + LONG:
            self.check_changes((), row)
            self.check_changes(row, ())
            self.assertEqual(frames_kept((), row), 0)
            self.assertEqual(frames_kept(row, ()), 0)

    def test_plain_ones(self):
        row = (("ab", 5, 1, 4), ("", 0, 0, 2))
        for new, kept in (
            ((("ab", 5, 1, 4),), 4),
            ((("ab", 5, 1, 2), ("", 0, 0, 2)), 4),
            ((("", 0, 0, 2), ("ab", 5, 1, 4)), 4),
            ((("", 0, 0, 3), ("ab", 5, 1, 2)), 2),
            (turned_about(row), 2),
            ((("ab", 8, -1, 4),), 1),
            ((("c", 5, 1, 4), ("", 0, 0, 1)), 1),
            ((("c", 5, 1, 4),), 0),
            ((("ab", 4, 1, 6), ("", 0, 0, 5)), 6),
        ):
            with self.subTest(new=new):
                self.check_changes(row, new)
                self.assertEqual(frames_kept(row, new), kept)
                self.assertEqual(frames_kept(new, row), kept)

    def test_rows_of_200_frames(self):
        for old, new in itertools.product(LONG, LONG):
            self.check_changes(old, new)

    def test_what_is_told_is_new(self):
        changes((), ROWS[1]).clear()
        self.check_changes((), ROWS[1])


class RefusalsInOrder(unittest.TestCase):
    LONGER = ((("a", 0, 1, 201),), (("", 0, 0, 200), ("a", 0, 0, 1)), tuple(("a", k, 0, 1) for k in range(201)))

    def test_bad_row(self):
        for call, row in itertools.product((changes, frames_kept), NO_ROWS):
            for other in ((), ROWS[1], FULL_ROWS[0], None):
                self.assertEqual(refusal(call, row, other), BadRow)
                self.assertEqual(refusal(call, other, row), BadRow)

    def test_too_long(self):
        for call, row in itertools.product((changes, frames_kept), self.LONGER + FULL_ROWS):
            for other in ((), LONG[0], row):
                self.assertEqual(refusal(call, row, other), TooLong)
                self.assertEqual(refusal(call, other, row), TooLong)
