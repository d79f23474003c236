"""5.1, 5.2, 5.3, 0.2 (e), 0.3: deeds, their contraries, and two of them exchanged."""

import itertools
import unittest

from cutroom.deeds import contrary, done, exchanged
from cutroom.errors import BadDeed, BadRow, NotSo, TooLong
from cutroom.rows import checked, film, least
from tests.samples import (
    FULL_ROWS, HUGE, NO_DEEDS, NO_ROWS, PART, ROWS, behind, deeds_on, exchange_reckoned, fresh, part_of, refusal, shown,
)

ROW = (("a", 0, 1, 4), ("", 0, 0, 2), ("b", 9, -1, 3))
KINDS = ("put", "out", "over")


class Done(unittest.TestCase):
    def test_plain_ones(self):
        z = (("z", 1, 1, 2),)
        for deed, want in (
            (("put", 0, z), z + ROW),
            (("put", 9, z), ROW + z),
            (("put", 2, z), (("a", 0, 1, 2),) + z + (("a", 2, 1, 2),) + ROW[1:]),
            (("put", 4, (("a", 4, 0, 1),)), (("a", 0, 1, 5),) + ROW[1:]),
            (("put", 5, (("", 0, 0, 3),)), (("a", 0, 1, 4), ("", 0, 0, 5), ("b", 9, -1, 3))),
            (("out", 0, (("a", 0, 1, 4),)), ROW[1:]),
            (("out", 1, (("a", 1, 0, 1),)), (("a", 0, 0, 1), ("a", 2, 1, 2)) + ROW[1:]),
            (("out", 3, (("a", 3, 0, 1), ("", 0, 0, 2), ("b", 9, 0, 1))), (("a", 0, 1, 3), ("b", 8, -1, 2))),
            (("out", 0, ROW), ()),
            (("out", 8, (("b", 7, 0, 1),)), ROW[:2] + (("b", 9, -1, 2),)),
            (("over", 0, ROW, (("z", 1, 1, 9),)), (("z", 1, 1, 9),)),
            (("over", 4, (("", 0, 0, 2),), (("a", 4, 1, 2),)), (("a", 0, 1, 6),) + ROW[2:]),
            (("over", 7, (("b", 8, -1, 2),), z), ROW[:2] + (("b", 9, 0, 1),) + z),
            (("over", 1, (("a", 1, 1, 2),), (("a", 1, 1, 2),)), ROW),
        ):
            with self.subTest(deed):
                self.assertEqual(done(ROW, deed), want)
                self.assertEqual(done(want, contrary(deed)), ROW)

    def test_each_deed_and_its_contrary(self):
        for row in ROWS:
            frames = shown(row)
            for deed in deeds_on(frames, "z", (1, 2, 3, 5)):
                told = done(row, deed)
                self.assertEqual(film(told), behind(frames, deed))
                self.assertEqual(least(told), told)
                self.assertEqual(checked(told), told)
                self.assertEqual(done(told, contrary(deed)), least(row))

    def test_row_need_not_be_least(self):
        row = (("a", 0, 1, 1), ("a", 1, -1, 1), ("a", 2, 0, 1), ("a", 3, 1, 1))
        self.assertEqual(done(row, ("out", 1, (("a", 1, 1, 2),))), (("a", 0, 0, 1), ("a", 3, 0, 1)))
        self.assertEqual(done(row, ("over", 0, (("a", 0, 1, 4),), (("b", 0, 0, 4),))), (("b", 0, 0, 4),))

    def test_not_so(self):
        for deed in (
            ("put", 10, PART), ("put", HUGE, PART), ("out", 9, PART), ("out", 10, PART), ("out", HUGE, PART),
            ("over", 9, PART, PART), ("over", 10, PART, PART), ("over", HUGE, PART, PART),
            ("out", 0, (("a", 0, 1, 5),)), ("out", 0, (("a", 1, 1, 2),)), ("out", 1, (("a", 0, 1, 2),)),
            ("out", 0, (("a", 1, -1, 2),)), ("out", 0, (("a", 0, 0, 2),)), ("out", 4, (("", 0, 0, 3),)),
            ("out", 8, (("b", 7, -1, 2),)), ("out", 0, ROW + (("c", 1, 0, 1),)), ("out", 0, (("b", 0, 1, 2),)),
            ("over", 0, (("a", 0, 1, 5),), (("z", 0, 1, 5),)), ("over", 1, (("a", 0, 1, 2),), (("z", 0, 1, 2),)),
            ("over", 8, (("b", 7, -1, 2),), (("z", 0, 1, 2),)), ("over", 0, (("z", 0, 1, 2),), (("a", 0, 1, 2),)),
        ):
            self.assertEqual(refusal(done, ROW, deed), NotSo)
        for deed in (("put", 1, PART), ("out", 0, PART), ("over", 0, PART, PART)):
            self.assertEqual(refusal(done, (), deed), NotSo)
        self.assertEqual(done((), ("put", 0, PART)), PART)

    def test_each_place_where_frames_are_shown(self):
        for row in ROWS:
            frames = shown(row)
            for many in range(1, len(frames) + 1):
                for begin, place in itertools.product(range(len(frames) - many + 1), range(len(frames) + 2)):
                    part = part_of(frames[begin:begin + many])
                    want = None if frames[place:place + many] == frames[begin:begin + many] else NotSo
                    self.assertEqual(refusal(done, row, ("out", place, part)), want)
                    self.assertEqual(refusal(done, row, ("over", place, part, fresh("z", many))), want)

    def test_too_long(self):
        one = (("z", 1, 0, 1),)
        for row in FULL_ROWS:
            frames = shown(row)
            for place in (0, 1500, 3000):
                self.assertEqual(refusal(done, row, ("put", place, one)), TooLong)
                self.assertEqual(refusal(done, row, ("put", place, least(row))), TooLong)
            self.assertEqual(done(row, ("out", 0, least(row))), ())
            self.assertEqual(done((), ("put", 0, least(row))), least(row))
            self.assertEqual(film(done(row, ("over", 2999, part_of(frames[2999:]), one))), frames[:2999] + [("z", 1)])
        row = (("a", 0, 0, 2998),)
        self.assertEqual(done(row, ("put", 2998, (("z", 1, 0, 2),))), row + (("z", 1, 0, 2),))
        self.assertEqual(refusal(done, row, ("put", 2998, (("z", 1, 0, 3),))), TooLong)

    def test_refusals_in_order(self):
        for row in NO_ROWS:
            for deed in (("put", 0, PART), ("put", HUGE, PART), None, ("put", -1, PART)):
                self.assertEqual(refusal(done, row, deed), BadRow)
        for deed in NO_DEEDS:
            for row in (ROW, (), FULL_ROWS[0]):
                self.assertEqual(refusal(done, row, deed), BadDeed)
        for row in FULL_ROWS:
            self.assertEqual(refusal(done, row, ("put", 3001, FULL_ROWS[0])), NotSo)


class Contrary(unittest.TestCase):
    def test_each_kind(self):
        z = (("z", 1, 1, 2),)
        self.assertEqual(contrary(("put", 7, PART)), ("out", 7, PART))
        self.assertEqual(contrary(("out", 7, PART)), ("put", 7, PART))
        self.assertEqual(contrary(("over", 7, PART, z)), ("over", 7, z, PART))
        for deed in (("put", HUGE, PART), ("out", 0, FULL_ROWS[0]), ("over", 3, z, z), ("over", 0, PART, z)):
            self.assertEqual(contrary(contrary(deed)), deed)

    def test_no_deeds(self):
        for number, deed in enumerate(NO_DEEDS):
            with self.subTest(number=number):
                self.assertEqual(refusal(contrary, deed), BadDeed)


class Exchanged(unittest.TestCase):
    def check_two(self, frames, one, other):
        told = exchanged(one, other)
        self.assertEqual(told, exchange_reckoned(one, other))
        if told is not None:
            self.assertIsInstance(told, tuple)
            row = part_of(frames)
            self.assertEqual(done(done(row, told[0]), told[1]), done(done(row, one), other))
            self.assertEqual(exchanged(*told), (one, other))
        return told is None

    def check_all(self, frames, sizes):
        met = set()
        for one in deeds_on(frames, "y", sizes):
            for other in deeds_on(behind(frames, one), "z", sizes):
                met.add((one[0], other[0], self.check_two(frames, one, other)))
        return met

    def test_all_kinds_at_all_places(self):
        frames = [("a", 3 * number) for number in range(6)]
        met = self.check_all(frames, (1, 2, 3))
        self.assertEqual(met, set(itertools.product(KINDS, KINDS, (True, False))))

    def test_frames_that_are_alike(self):
        self.check_all([("a", 1)] * 5, (1, 2))
        self.check_all([("", 0)] * 3 + [("a", 0), ("a", 1), ("a", 0)], (1, 2))
        self.check_all([], (1, 2))

    def test_put_and_put(self):
        one = ("put", 5, (("y", 1, 1, 3),))
        z = (("z", 1, 1, 2),)
        for place, want in (
            (0, (("put", 0, z), ("put", 7, one[2]))), (4, (("put", 4, z), ("put", 7, one[2]))),
            (5, (("put", 5, z), ("put", 7, one[2]))), (6, None), (7, None),
            (8, (("put", 5, z), one)), (9, (("put", 6, z), one)),
        ):
            self.assertEqual(exchanged(one, ("put", place, z)), want)

    def test_put_and_out(self):
        one = ("put", 5, (("y", 1, 1, 3),))
        z = (("z", 1, 1, 2),)
        for place, want in (
            (2, (("out", 2, z), ("put", 3, one[2]))), (3, None), (4, None), (5, None), (7, None), (8, None),
            (9, (("out", 6, z), one)),
        ):
            self.assertEqual(exchanged(one, ("out", place, z)), want)

    def test_out_and_put(self):
        one = ("out", 5, (("y", 1, 1, 3),))
        z = (("z", 1, 1, 2),)
        for place, want in (
            (4, (("put", 4, z), ("out", 7, one[2]))), (5, None), (6, (("put", 9, z), one)),
        ):
            self.assertEqual(exchanged(one, ("put", place, z)), want)

    def test_out_and_out(self):
        one = ("out", 5, (("y", 1, 1, 3),))
        z = (("z", 1, 1, 2),)
        for place, want in (
            (2, (("out", 2, z), ("out", 3, one[2]))), (3, (("out", 3, z), ("out", 3, one[2]))), (4, None),
            (5, (("out", 8, z), one)), (6, (("out", 9, z), one)),
        ):
            self.assertEqual(exchanged(one, ("out", place, z)), want)

    def test_overs(self):
        y, z = (("y", 1, 1, 3),), (("z", 1, 1, 3),)
        one = ("over", 5, y, z)
        for place, want in ((2, True), (3, False), (5, False), (7, False), (8, True)):
            other = ("over", place, y, z)
            self.assertEqual(exchanged(one, other), (other, one) if want else None)
            other = ("out", place, y)
            moved = ("over", 2, y, z) if place == 2 else one
            self.assertEqual(exchanged(one, other), (other, moved) if want else None)
        for place, want in (
            (5, (("put", 5, y), ("over", 8, y, z))), (6, None), (7, None), (8, (("put", 8, y), one)),
        ):
            self.assertEqual(exchanged(one, ("put", place, y)), want)
        for place, want in ((2, (2, 5)), (3, None), (4, None), (5, (8, 5)), (6, (9, 5))):
            told = exchanged(("out", 5, y), ("over", place, y, z))
            self.assertEqual(told, want and (("over", want[0], y, z), ("out", want[1], y)))
        for place, want in ((2, (2, 5)), (3, None), (7, None), (8, (5, 5)), (9, (6, 5))):
            told = exchanged(("put", 5, y), ("over", place, y, z))
            self.assertEqual(told, want and (("over", want[0], y, z), ("put", want[1], y)))

    def test_far_places(self):
        one = ("put", HUGE, PART)
        other = ("out", 0, PART)
        self.assertEqual(exchanged(one, other), (other, ("put", HUGE - 2, PART)))
        self.assertEqual(exchanged(other, one), (("put", HUGE + 2, PART), other))

    def test_bad_deed_of_either(self):
        for deed in NO_DEEDS:
            self.assertEqual(refusal(exchanged, deed, ("put", 0, PART)), BadDeed)
            self.assertEqual(refusal(exchanged, ("put", 0, PART), deed), BadDeed)
            self.assertEqual(refusal(exchanged, deed, deed), BadDeed)
