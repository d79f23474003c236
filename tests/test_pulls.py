"""10.1, 10.2, 0.2 (h), 0.3: pulls."""

import copy
import itertools
import random
import unittest

from cutroom.errors import BadCount, BadPulls, BadRow, BadShelf, OffReel
from cutroom.pulls import pulled_row, pulled_shelf, pulls, row_again
from cutroom.rows import film, least, least_of
from cutroom.trims import is_of
from tests.samples import (
    FULL_ROWS, HUGE, NAMES, NO_ROWS, NO_SHELVES, NO_WHOLE_NUMBERS, ROWS, any_row, refusal, runs_of, shown,
)

SHELF = (("a", 40), ("ab", 1), ("b", 9), ("c", 300))
WIDE = (("a", 10000), ("ab", 10000), ("b", 10000), ("c", 10000))
PULLED = [("a", 3, 4), ("a", 10, 1), ("a", 20, 5), ("b", 0, 3), ("c", 9990, 10)]
ALL = [("a", 0, 10000), ("ab", 0, 10000), ("c", 0, 10000)]

NO_PULLS_ALONE = (
    None, True, False, 0, 1, HUGE, "", "a", "abc", [], (), (1, 2, 3), ("a",), ("a", 5), ("a", 5, 1, 1), ["a", 5, 1],
    (("a", 5, 1),), [("a", 5, 1)], ("a", 5, 0, 1),
    # names
    ("", 5, 1), ("", 0, 1), ("abcdefg", 5, 1), ("A", 5, 1), ("a1", 5, 1), ("a ", 5, 1), ("-", 5, 1), ("\u00e4", 5, 1),
    (None, 5, 1), (5, 5, 1), (True, 5, 1), (["a"], 5, 1), (("a",), 5, 1),
    # numbers
    ("a", -1, 1), ("a", -1, 5), ("a", 10000, 1), ("a", HUGE, 1), ("a", -HUGE, 1), ("a", None, 1), ("a", True, 1),
    ("a", False, 1), ("a", "5", 1), ("a", [5], 1), ("a", (5,), 1),
    # how many
    ("a", 5, 0), ("a", 5, -1), ("a", 5, 9996), ("a", 9999, 2), ("a", 0, 10001), ("a", 5, HUGE), ("a", 5, -HUGE),
    ("a", 5, None), ("a", 5, True), ("a", 5, False), ("a", 5, "1"), ("a", 5, [1]), ("a", 5, (1,)),
)
NO_PULLS = tuple([pull] for pull in NO_PULLS_ALONE) + tuple([("a", 0, 2), pull] for pull in NO_PULLS_ALONE) + tuple(
    [pull, ("c", 0, 2)] for pull in NO_PULLS_ALONE
) + (
    None, True, False, 0, 1, HUGE, "", "a", (), ("a", 5, 1), (("a", 5, 1),), (["a", 5, 1],), tuple(PULLED),
    # names that fall
    [("b", 5, 1), ("a", 5, 1)], [("b", 5, 1), ("a", 7, 1)], [("ab", 5, 1), ("a", 9, 1)],
    [("a", 5, 1), ("c", 5, 1), ("b", 9, 1)], [("a", 5, 1), ("b", 5, 1), ("a", 9, 1)], [("aa", 5, 1), ("a", 7, 2)],
    # runs that touch
    [("a", 5, 3), ("a", 8, 1)], [("a", 5, 1), ("a", 6, 1)], [("a", 0, 9999), ("a", 9999, 1)],
    [("a", 0, 2), ("a", 5, 3), ("a", 8, 1)], [("a", 5, 3), ("a", 8, 1), ("b", 0, 1)],
    # runs that overlap
    [("a", 5, 3), ("a", 7, 1)], [("a", 5, 3), ("a", 6, 9)], [("a", 5, 3), ("a", 5, 3)], [("a", 5, 3), ("a", 5, 4)],
    [("a", 5, 3), ("a", 5, 1)], [("a", 0, 10000), ("a", 7, 1)],
    # runs that fall
    [("a", 5, 3), ("a", 4, 1)], [("a", 5, 3), ("a", 3, 1)], [("a", 5, 3), ("a", 0, 1)], [("a", 9999, 1), ("a", 0, 1)],
    [("a", 5, 1), ("b", 5, 1), ("b", 3, 1)], [("a", 2, 1), ("a", 9, 1), ("a", 5, 1)],
)


def needed(shelf, rows, handle):
    # Asks of each frame of the shelf whether one that is shown lies near enough.
    frames = set()
    for name, many in shelf:
        numbers = {number for row in rows for shown_name, number in shown(row) if shown_name == name}
        for number in range(many):
            if any(abs(number - other) <= handle for other in numbers):
                frames.add((name, number))
    return frames


def goals(pulled):
    # Numbers each frame anew by how many of its reel are ahead of it.
    frames = sorted({(name, first + k) for name, first, many in pulled for k in range(many)})
    told = {("", 0): ("", 0)}
    for name, same in itertools.groupby(frames, key=lambda frame: frame[0]):
        told.update({frame: (name, number) for number, frame in enumerate(same)})
    return told


def any_pulls(chance):
    pulled = []
    for name in sorted(chance.sample(NAMES, chance.randrange(5))):
        number = chance.randrange(4)
        for run in range(chance.randrange(1, 5)):
            many = chance.randrange(1, 6)
            pulled.append((name, number, many))
            number += many + chance.randrange(1, 5)
    return pulled


class Pulls(unittest.TestCase):
    def check_pulls(self, shelf, rows, handle):
        told = pulls(shelf, rows, handle)
        self.assertEqual(told, runs_of(needed(shelf, rows, handle)), (rows, handle))
        self.assertIs(type(told), list)
        # What is told is a list of pulls itself, and all rows are led by it there and back.
        self.assertEqual(
            pulled_shelf(told),
            tuple((name, len([frame for frame in goals(told) if frame[0] == name])) for name in names_of(told)),
        )
        for row in rows:
            led = pulled_row(told, row)
            self.assertEqual(row_again(told, led), least(row))
            if told:
                self.assertTrue(is_of(pulled_shelf(told), led))

    def test_one_to_eight_rows(self):
        chance = random.Random(10)
        for turn in range(60):
            rows = tuple(any_row(chance, SHELF, chance.randrange(4), 12) for row in range(turn % 8 + 1))
            for handle in (0, 1, 2, 5, 500):
                self.check_pulls(SHELF, rows, handle)

    def test_plain_ones(self):
        for row, handle, want in (
            ((), 0, []),
            ((), 500, []),
            ((("", 0, 0, 5),), 500, []),
            ((("a", 5, 1, 3),), 0, [("a", 5, 3)]),
            ((("a", 7, -1, 3),), 0, [("a", 5, 3)]),
            ((("a", 7, 0, 3),), 0, [("a", 7, 1)]),
            ((("a", 5, 1, 3),), 2, [("a", 3, 7)]),
            ((("a", 7, 0, 3),), 3, [("a", 4, 7)]),
            ((("c", 5, 0, 1), ("", 0, 0, 9), ("a", 7, 0, 1)), 0, [("a", 7, 1), ("c", 5, 1)]),
            ((("b", 5, 0, 1), ("ab", 0, 0, 1), ("a", 7, 0, 1)), 1, [("a", 6, 3), ("ab", 0, 1), ("b", 4, 3)]),
            # none beyond a reel's ends
            ((("a", 1, 1, 2),), 2, [("a", 0, 5)]),
            ((("a", 2, 1, 2),), 2, [("a", 0, 6)]),
            ((("a", 3, 1, 2),), 2, [("a", 1, 6)]),
            ((("a", 36, 1, 2),), 2, [("a", 34, 6)]),
            ((("a", 37, 1, 2),), 2, [("a", 35, 5)]),
            ((("a", 39, -1, 2),), 1, [("a", 37, 3)]),
            ((("ab", 0, 0, 5),), 500, [("ab", 0, 1)]),
            ((("b", 5, 0, 1), ("c", 299, 0, 1)), 500, [("b", 0, 9), ("c", 0, 300)]),
            # runs that overlap, touch, and have a frame between them
            ((("a", 5, 1, 3), ("a", 7, 1, 3)), 0, [("a", 5, 5)]),
            ((("a", 5, 1, 3), ("a", 8, 1, 3)), 0, [("a", 5, 6)]),
            ((("a", 5, 1, 3), ("a", 9, 1, 3)), 0, [("a", 5, 3), ("a", 9, 3)]),
            ((("a", 5, 1, 3), ("a", 10, 1, 3)), 1, [("a", 4, 10)]),
            ((("a", 5, 1, 3), ("a", 11, 1, 3)), 1, [("a", 4, 5), ("a", 10, 5)]),
            ((("a", 11, 1, 3), ("a", 5, 1, 3)), 1, [("a", 4, 5), ("a", 10, 5)]),
            ((("a", 5, 1, 9), ("a", 7, 1, 2), ("a", 13, 0, 1)), 0, [("a", 5, 9)]),
            ((("a", 5, 1, 9), ("a", 7, 1, 2), ("a", 15, 0, 1)), 0, [("a", 5, 9), ("a", 15, 1)]),
        ):
            with self.subTest(row=row, handle=handle):
                self.assertEqual(pulls(SHELF, (row,), handle), want)
                self.check_pulls(SHELF, (row,), handle)
                self.assertEqual(pulls(SHELF, (row, (), row), handle), want)
                self.assertEqual(pulls(SHELF, tuple((piece,) for piece in row) + ((),), handle), want)

    def test_reels_that_begin_alike_are_kept_apart(self):
        shelf = (("a", 9), ("aa", 9), ("ab", 9), ("b", 9))
        row = (("b", 4, 0, 1), ("aa", 4, 0, 1), ("ab", 5, 0, 1), ("a", 3, 0, 1))
        self.assertEqual(pulls(shelf, (row,), 0), [("a", 3, 1), ("aa", 4, 1), ("ab", 5, 1), ("b", 4, 1)])

    def test_full_rows_and_the_longest_reels(self):
        for row in FULL_ROWS:
            self.assertEqual(pulls(WIDE, (row,) * 8, 0), runs_of(set(shown(row)) - {("", 0)}))
        self.assertEqual(pulls(WIDE, ((("a", 9999, 0, 1),), (("a", 0, 0, 1),)), 500), [("a", 0, 501), ("a", 9499, 501)])
        rows = tuple((("a", 3000 * k, 1, 3000 if k < 3 else 1000),) for k in range(4))
        self.assertEqual(pulls(WIDE, rows, 0), [("a", 0, 10000)])

    def test_the_list_that_is_told_is_new(self):
        rows = ((("a", 5, 1, 3),),)
        pulls(SHELF, rows, 0).append("changed")
        self.assertEqual(pulls(SHELF, rows, 0), [("a", 5, 3)])


def names_of(pulled):
    return sorted({name for name, first, many in pulled})


class RefusalsOfPulls(unittest.TestCase):
    ROWS = ((("a", 5, 1, 3),), (("c", 9, -1, 4), ("", 0, 0, 2)))
    NO_COUNTS = NO_WHOLE_NUMBERS + (-1, 501, HUGE, -HUGE)

    def test_bad_shelf(self):
        for shelf in NO_SHELVES:
            self.assertEqual(refusal(pulls, shelf, self.ROWS, 0), BadShelf)
            self.assertEqual(refusal(pulls, shelf, None, None), BadShelf)
            self.assertEqual(refusal(pulls, shelf, (), 0), BadShelf)

    def test_bad_row(self):
        off = (("zz", 0, 0, 1),)
        for row in NO_ROWS:
            self.assertEqual(refusal(pulls, SHELF, (row,), 0), BadRow)
            self.assertEqual(refusal(pulls, SHELF, self.ROWS + (row,), None), BadRow)
            self.assertEqual(refusal(pulls, SHELF, (off, row), 501), BadRow)
        for rows in (
            None, True, 0, HUGE, "", "ab", (), [], list(self.ROWS), self.ROWS[0], self.ROWS[0][0], [[]],
            ((),) * 9, ((),) * 100, self.ROWS * 5, (off,) * 9,
        ):
            for handle in (0, 501, None):
                self.assertEqual(refusal(pulls, SHELF, rows, handle), BadRow)
        for many in range(1, 9):
            self.assertEqual(pulls(SHELF, ((),) * many, 0), [])

    def test_off_reel(self):
        for handle in (0, 500) + self.NO_COUNTS:
            for piece in (("a", 40, 0, 1), ("a", 38, 1, 3), ("c", 300, -1, 2), ("ab", 1, 0, 1), ("zz", 0, 0, 1)):
                self.assertEqual(refusal(pulls, SHELF, ((piece,),), handle), OffReel)
                self.assertEqual(refusal(pulls, SHELF, self.ROWS + ((("b", 0, 0, 1), piece),), handle), OffReel)
                self.assertEqual(refusal(pulls, SHELF, ((piece,),) + self.ROWS, handle), OffReel)

    def test_bad_count(self):
        for handle in self.NO_COUNTS:
            self.assertEqual(refusal(pulls, SHELF, self.ROWS, handle), BadCount)
            self.assertEqual(refusal(pulls, SHELF, ((),), handle), BadCount)
        for handle in (0, 1, 499, 500):
            self.assertIsNone(refusal(pulls, SHELF, self.ROWS, handle))


class PulledReels(unittest.TestCase):
    def test_plain_ones(self):
        self.assertEqual(pulled_shelf(PULLED), (("a", 10), ("b", 3), ("c", 10)))
        self.assertEqual(pulled_shelf([]), ())
        self.assertEqual(pulled_shelf(ALL), (("a", 10000), ("ab", 10000), ("c", 10000)))
        self.assertEqual(pulled_shelf([("a", 0, 9998), ("a", 9999, 1)]), (("a", 9999),))
        for row, want in (
            ((), ()),
            ((("", 0, 0, 5),), (("", 0, 0, 5),)),
            ((("a", 3, 1, 4),), (("a", 0, 1, 4),)),
            ((("a", 6, -1, 4),), (("a", 3, -1, 4),)),
            ((("a", 10, 0, 4),), (("a", 4, 0, 4),)),
            ((("a", 10, 1, 1),), (("a", 4, 0, 1),)),
            ((("a", 4, 1, 3), ("a", 10, 0, 1), ("a", 20, 1, 5)), (("a", 1, 1, 9),)),
            ((("a", 21, -1, 2), ("a", 10, 0, 1), ("a", 6, -1, 1)), (("a", 6, -1, 4),)),
            ((("c", 9999, -1, 10), ("", 0, 0, 1), ("b", 0, 1, 3)), (("c", 9, -1, 10), ("", 0, 0, 1), ("b", 0, 1, 3))),
            ((("a", 6, 0, 2), ("a", 10, 0, 2)), (("a", 3, 0, 2), ("a", 4, 0, 2))),
        ):
            with self.subTest(row=row):
                self.assertEqual(pulled_row(PULLED, row), want)
                self.assertEqual(row_again(PULLED, want), least(row))

    def test_across_two_pulls_of_a_reel(self):
        # What is one piece on the pulled reel, is several on the reel itself.
        for step, row in (
            (1, (("a", 5, 1, 2), ("a", 10, 0, 1), ("a", 20, 1, 2))),
            (-1, (("a", 21, -1, 2), ("a", 10, 0, 1), ("a", 6, -1, 2))),
        ):
            led = (("a", 2 if step == 1 else 6, step, 5),)
            self.assertEqual(pulled_row(PULLED, row), led)
            self.assertEqual(row_again(PULLED, led), row)

    def test_any_list_of_pulls(self):
        chance = random.Random(11)
        for turn in range(400):
            pulled = any_pulls(chance)
            there = goals(pulled)
            reels = {}
            for name, number in there.values():
                reels[name] = reels.get(name, 0) + 1
            del reels[""]
            self.assertEqual(pulled_shelf(pulled), tuple(sorted(reels.items())))
            frames = []
            for run in range(chance.randrange(6)):
                frame = chance.choice(sorted(there))
                frames.extend([frame] * chance.randrange(1, 3))
                while chance.randrange(4) and (frame[0], frame[1] + 1) in there:
                    frame = (frame[0], frame[1] + 1)
                    frames.append(frame)
            row = least_of(frames)
            want = [there[frame] for frame in frames]
            led = pulled_row(pulled, row)
            self.assertEqual(led, least_of(want))
            self.assertEqual(film(led), want)
            self.assertEqual(row_again(pulled, led), row)
            self.assertEqual(row_again(pulled, tuple((name, k, 0, 1) for name, k in want)), row)

    def test_the_least_row_is_told(self):
        parted = (("a", 3, 1, 1), ("a", 4, 0, 1), ("a", 5, -1, 1), ("", 0, 0, 1), ("", 0, 0, 2))
        self.assertEqual(pulled_row(PULLED, parted), (("a", 0, 1, 3), ("", 0, 0, 3)))
        parted = (("a", 0, 1, 1), ("a", 1, 0, 1), ("a", 2, -1, 1), ("", 0, 0, 1), ("", 0, 0, 2))
        self.assertEqual(row_again(PULLED, parted), (("a", 3, 1, 3), ("", 0, 0, 3)))

    def test_whole_reels_leave_rows_as_they_are(self):
        for row in ROWS + FULL_ROWS:
            self.assertEqual(pulled_row(ALL, row), least(row))
            self.assertEqual(row_again(ALL, row), least(row))

    def test_more_reels_than_a_shelf_has(self):
        pulled = [(name, 5, 2) for name in NAMES]
        self.assertEqual(pulled_shelf(pulled), tuple((name, 2) for name in NAMES))
        self.assertEqual(pulled_row(pulled, (("z", 5, 1, 2),)), (("z", 0, 1, 2),))

    def test_the_list_stays(self):
        pulled = copy.deepcopy(PULLED)
        pulled_shelf(pulled)
        pulled_row(pulled, (("a", 3, 1, 4),))
        row_again(pulled, (("a", 3, 1, 4),))
        refusal(pulled_row, pulled, (("a", 0, 0, 1),))
        self.assertEqual(pulled, PULLED)


class RefusalsOfPulledReels(unittest.TestCase):
    def test_bad_pulls(self):
        for pulled in NO_PULLS:
            self.assertEqual(refusal(pulled_shelf, pulled), BadPulls, pulled)
            for call, row in itertools.product((pulled_row, row_again), ((), None, (("zz", 0, 0, 1),))):
                self.assertEqual(refusal(call, pulled, row), BadPulls)

    def test_bad_row(self):
        for row, pulled in itertools.product(NO_ROWS, ([], PULLED)):
            self.assertEqual(refusal(pulled_row, pulled, row), BadRow)
            self.assertEqual(refusal(row_again, pulled, row), BadRow)

    def test_a_frame_that_is_not_pulled(self):
        there = goals(PULLED)
        for name, number in itertools.product(("a", "aa", "b", "c"), (*range(30), *range(9980, 10000))):
            wrong = None if (name, number) in there else OffReel
            self.assertEqual(refusal(pulled_row, PULLED, ((name, number, 0, 1),)), wrong)
            self.assertEqual(refusal(pulled_row, PULLED, (("a", 3, 1, 2), ("", 0, 0, 1), (name, number, 0, 2))), wrong)
        for piece in (("a", 3, 1, 5), ("a", 6, -1, 5), ("a", 10, 1, 2), ("c", 9989, 1, 11), ("a", 6, 1, 5)):
            self.assertEqual(refusal(pulled_row, PULLED, (piece,)), OffReel)

    def test_a_number_that_no_pulled_reel_has(self):
        for name, number in itertools.product(("a", "aa", "b", "c"), (*range(30), *range(9980, 10000))):
            wrong = None if number < {"a": 10, "b": 3, "c": 10}.get(name, 0) else OffReel
            self.assertEqual(refusal(row_again, PULLED, ((name, number, 0, 1),)), wrong)
            self.assertEqual(refusal(row_again, PULLED, (("b", 2, -1, 3), (name, number, 0, 2))), wrong)
        for piece in (("a", 0, 1, 11), ("a", 10, -1, 2), ("b", 0, 1, 4)):
            self.assertEqual(refusal(row_again, PULLED, (piece,)), OffReel)

    def test_no_pulls_at_all(self):
        for call in (pulled_row, row_again):
            self.assertEqual(call([], ()), ())
            self.assertEqual(call([], (("", 0, 0, 2), ("", 0, 0, 1))), (("", 0, 0, 3),))
            self.assertEqual(refusal(call, [], (("a", 0, 0, 1),)), OffReel)
