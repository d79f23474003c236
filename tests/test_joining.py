"""7.1, 7.2, 0.2 (f), 0.3: the deeds of two cutters joined."""

import itertools
import random
import unittest

from cutroom.deeds import done
from cutroom.errors import BadDeed, BadRow, Clash, NotSo, TooLong
from cutroom.joining import clash, joined
from cutroom.rows import film, least
from tests.samples import (
    FULL_ROWS, HUGE, NO_DEEDS, NO_ROWS, PART, ROWS, any_deed, behind, deeds_on, part_of, refusal, shown,
)

ROW = (("a", 0, 1, 8),)
KINDS = ("put", "out", "over")
BOTH = (clash, joined)
NO_LISTS = (None, True, False, 0, 1, HUGE, "", "put", (), (("put", 0, PART),), ("put", 0, PART), ["put", 0, PART])


def all_done(row, deeds):
    for deed in deeds:
        row = done(row, deed)
    return least(row)


def do_clash(one, other):
    # What the document says of the marks, reckoned out for each two kinds.
    p, n = one[1], len(shown(one[2]))
    q, m = other[1], len(shown(other[2]))
    if one[0] == "put":
        return p == q if other[0] == "put" else q < p < q + m
    if other[0] == "put":
        return p < q < p + n
    return q < p + n and p < q + m


def past(deed, other):
    q, m = other[1], len(shown(other[2]))
    more = {"put": m, "out": -m, "over": 0}[other[0]]
    end = q if other[0] == "put" else q + m
    return (deed[0], deed[1] + more) + deed[2:] if end <= deed[1] else deed


def reckoned(ones, others):
    # A table of all pairs, each met when both have been carried past all ahead of them.
    # Tells the two that clash first, or both lists.
    table = {}
    clashes = []

    def met(i, j):
        one = ones[i] if j == 0 else table[(i, j - 1)][0]
        other = others[j] if i == 0 else table[(i - 1, j)][1]
        if one is None or other is None:
            return (None, None)
        if do_clash(one, other):
            clashes.append((j, i))
            return (None, None)
        return (past(one, other), past(other, one))

    for i, j in itertools.product(range(len(ones)), range(len(others))):
        table[(i, j)] = met(i, j)
    if clashes:
        # The other list's deeds come one by one, each past all of the one list's.
        return min(clashes)[::-1]
    if not ones or not others:
        return (list(others), list(ones))
    ones_told = [table[(i, len(others) - 1)][0] for i in range(len(ones))]
    return ([table[(len(ones) - 1, j)][1] for j in range(len(others))], ones_told)


class JoinedTest(unittest.TestCase):
    def check_lists(self, row, ones, others):
        kept = (list(ones), list(others))
        want = reckoned(ones, others)
        if ones and others and isinstance(want[0], int):
            self.assertEqual(clash(row, ones, others), want)
            self.assertEqual(refusal(joined, row, ones, others), Clash)
        else:
            self.assertIsNone(clash(row, ones, others))
            told = joined(row, ones, others)
            self.assertIsInstance(told, tuple)
            self.assertEqual(told[:2], want)
            self.assertEqual(told[2], all_done(row, ones + told[0]))
            self.assertEqual(told[2], all_done(row, others + told[1]))
        self.assertEqual((ones, others), kept)
        return want

    def check_film(self, row, ones, others):
        # All frames here differ; so a film tells by itself what was put and what was taken away.
        base = shown(row)
        one = film(all_done(row, ones))
        other = film(all_done(row, others))
        both = film(joined(row, ones, others)[2])
        want = [frame for frame in base if frame in one and frame in other]
        want += [frame for frame in one + other if frame not in base]
        self.assertEqual(sorted(both), sorted(want))
        self.assertEqual([frame for frame in both if frame in one], [frame for frame in one if frame in both])
        self.assertEqual([frame for frame in both if frame in other], [frame for frame in other if frame in both])


class TwoDeeds(JoinedTest):
    def test_each_kind_at_each_distance(self):
        frames = [("a", 3 * number) for number in range(6)]
        row = part_of(frames)
        met = set()
        for one in deeds_on(frames, "y", (1, 2, 3)):
            for other in deeds_on(frames, "z", (1, 2, 3)):
                told = self.check_lists(row, [one], [other])
                met.add((one[0], other[0], told == (0, 0)))
                if told != (0, 0):
                    self.check_film(row, [one], [other])
        self.assertEqual(met, set(itertools.product(KINDS, KINDS, (True, False))))

    def test_two_puts(self):
        y, z = (("y", 1, 1, 2),), (("z", 1, 1, 3),)
        one = ("put", 4, y)
        self.assertEqual(clash(ROW, [one], [("put", 4, z)]), (0, 0))
        self.assertEqual(clash(ROW, [one], [one]), (0, 0))
        self.assertEqual(joined(ROW, [one], [("put", 3, z)]), (
            [("put", 3, z)], [("put", 7, y)], (("a", 0, 1, 3),) + z + (("a", 3, 0, 1),) + y + (("a", 4, 1, 4),),
        ))
        self.assertEqual(joined(ROW, [one], [("put", 5, z)])[:2], ([("put", 7, z)], [one]))

    def test_put_and_out(self):
        one = ("put", 4, (("y", 1, 1, 2),))
        for place, want in (
            (1, (("out", 1), ("put", 1))), (2, None), (3, None), (4, (("out", 6), ("put", 4))),
            (5, (("out", 7), ("put", 4))),
        ):
            out = ("out", place, (("a", place, 1, 3),))
            if want is None:
                self.assertEqual(clash(ROW, [one], [out]), (0, 0))
                self.assertEqual(clash(ROW, [out], [one]), (0, 0))
            else:
                told = joined(ROW, [one], [out])
                self.assertEqual((told[0][0][:2], told[1][0][:2]), want)
                self.assertEqual(joined(ROW, [out], [one]), (told[1], told[0], told[2]))

    def test_outs_and_overs(self):
        for one, other in itertools.product(("out", "over"), repeat=2):
            for place, want in ((0, None), (1, (0, 0)), (3, (0, 0)), (5, (0, 0)), (6, None)):
                deeds = [(kind, at, (("a", at, 1, many),), (("z", at, 0, many),))[:4 if kind == "over" else 3]
                         for kind, at, many in ((one, 3, 3), (other, place, 3 if place < 6 else 2))]
                self.assertEqual(clash(ROW, deeds[:1], deeds[1:]), want)
                self.assertEqual(clash(ROW, deeds[1:], deeds[:1]), want)


class Lists(JoinedTest):
    def test_empty_lists(self):
        deeds = [("put", 1, PART), ("out", 0, (("a", 0, 0, 1),))]
        for row in ROWS:
            self.assertIsNone(clash(row, [], []))
            self.assertEqual(joined(row, [], []), ([], [], least(row)))
        told = all_done(ROW, deeds)
        self.assertEqual(joined(ROW, deeds, []), ([], deeds, told))
        self.assertEqual(joined(ROW, [], deeds), (deeds, [], told))
        self.assertIsNone(clash(ROW, deeds, []))
        self.assertIsNone(clash(ROW, [], deeds))

    def test_row_need_not_be_least(self):
        row = (("a", 0, 1, 1), ("a", 1, 1, 1), ("a", 2, 0, 1))
        self.assertEqual(joined(row, [], []), ([], [], (("a", 0, 1, 3),)))

    def test_a_plain_one(self):
        y, z = (("y", 1, 1, 2),), (("z", 1, 1, 3),)
        ones = [("put", 0, y), ("out", 4, (("a", 2, 1, 2),))]
        others = [("over", 5, (("a", 5, 0, 1),), (("b", 0, 0, 1),)), ("put", 8, z), ("out", 0, (("a", 0, 0, 1),))]
        told = joined(ROW, ones, others)
        self.assertEqual(told[0], [
            ("over", 5, (("a", 5, 0, 1),), (("b", 0, 0, 1),)), ("put", 8, z), ("out", 2, (("a", 0, 0, 1),)),
        ])
        self.assertEqual(told[1], [("put", 0, y), ("out", 3, (("a", 2, 1, 2),))])
        self.assertEqual(told[2], y + (("a", 1, 0, 1), ("a", 4, 0, 1), ("b", 0, 0, 1), ("a", 6, 1, 2)) + z)

    def test_the_first_two_that_clash(self):
        y = (("y", 1, 1, 2),)
        put = [("put", place, y) for place in range(9)]
        # Behind the put at 7 the one at 2 is still at 2; the other's first deed goes past both ones first.
        self.assertEqual(clash(ROW, [put[7], put[2]], [put[2], put[7]]), (1, 0))
        self.assertEqual(clash(ROW, [put[7], put[2]], [put[7], put[2]]), (0, 0))
        self.assertEqual(clash(ROW, [put[7], put[2]], [put[3], put[2]]), (1, 1))
        self.assertEqual(clash(ROW, [put[2], put[8]], [put[4], put[8]]), (1, 1))
        # Both ways round the same deeds clash, but which two come first hangs on the other's deeds.
        self.assertEqual(clash(ROW, [put[1], put[6]], [put[3], put[1]]), (0, 1))
        self.assertEqual(clash(ROW, [put[3], put[1]], [put[1], put[6]]), (1, 0))
        self.assertEqual(clash(ROW, [put[1], put[5]], [put[3], put[1]]), (1, 0))

    def test_what_one_takes_away_again_can_clash(self):
        y = (("y", 1, 1, 2),)
        deeds = [("put", 4, y), ("out", 4, y)]
        self.assertEqual(clash(ROW, deeds, [("put", 4, y)]), (0, 0))
        self.assertEqual(joined(ROW, deeds, [("put", 3, y)])[0], [("put", 3, y)])

    def test_many_lists(self):
        chance = random.Random(7)
        clashes = 0
        for turn in range(700):
            base = [("a", 3 * number) for number in range(8)]
            lists = []
            for names in ("wx", "yz"):
                frames, deeds = base, []
                for number in range(chance.choice((1, 2, 2, 3, 4))):
                    deeds.append(any_deed(chance, frames, number, names))
                    frames = behind(frames, deeds[-1])
                lists.append(deeds)
            self.check_lists(part_of(base), *lists)
            if clash(part_of(base), *lists) is None:
                self.check_film(part_of(base), *lists)
            else:
                clashes += 1
        self.assertTrue(200 < clashes < 600, clashes)


class RefusalsInOrder(JoinedTest):
    BAD = [("put", 9, PART)]

    def test_bad_row(self):
        for row, call in itertools.product(NO_ROWS, BOTH):
            self.assertEqual(refusal(call, row, [], []), BadRow)
            self.assertEqual(refusal(call, row, None, None), BadRow)

    def test_bad_deed_of_either(self):
        for call in BOTH:
            for deeds in NO_LISTS:
                for other in ([], self.BAD, [("put", 0, PART)]):
                    self.assertEqual(refusal(call, ROW, deeds, other), BadDeed)
                    self.assertEqual(refusal(call, ROW, other, deeds), BadDeed)
            for deed in NO_DEEDS:
                for deeds in ([deed], [("put", 0, PART), deed], self.BAD + [deed]):
                    self.assertEqual(refusal(call, ROW, deeds, self.BAD), BadDeed)
                    self.assertEqual(refusal(call, ROW, self.BAD, deeds), BadDeed)

    def test_not_so_and_too_long_whichever_is_met_first(self):
        full = FULL_ROWS[0]
        long, wrong = ("put", 0, PART), ("out", 0, (("q", 0, 0, 1),))
        good = ("over", 0, (("a", 0, 0, 2),), PART)
        for call in BOTH:
            self.assertEqual(refusal(call, full, [long, wrong], []), TooLong)
            self.assertEqual(refusal(call, full, [wrong, long], []), NotSo)
            self.assertEqual(refusal(call, full, [], [long, wrong]), TooLong)
            self.assertEqual(refusal(call, full, [], [wrong, long]), NotSo)
            self.assertEqual(refusal(call, full, [long], [wrong]), TooLong)
            self.assertEqual(refusal(call, full, [wrong], [long]), NotSo)
            self.assertEqual(refusal(call, full, [good, long], [wrong]), TooLong)
            self.assertEqual(refusal(call, full, [good], [wrong]), NotSo)
            self.assertEqual(refusal(call, full, [good, wrong, good], [long]), NotSo)
            # Each deed is done behind the one ahead of it: this one doesn't fit twice.
            self.assertEqual(refusal(call, full, [good, good], [good]), NotSo)
            self.assertEqual(refusal(call, ROW, [("put", 0, PART)], self.BAD), NotSo)
            self.assertEqual(refusal(call, ROW, self.BAD, [("put", 0, PART)]), NotSo)

    def test_refused_lists_ahead_of_clash(self):
        put = ("put", 0, PART)
        self.assertEqual(refusal(joined, ROW, [put], [put]), Clash)
        self.assertEqual(clash(ROW, [put], [put]), (0, 0))
        for call in BOTH:
            self.assertEqual(refusal(call, ROW, [put], [put, ("put", 11, PART)]), NotSo)
            self.assertEqual(refusal(call, FULL_ROWS[0], [put], [put]), TooLong)

    def test_too_long_of_both(self):
        row = (("a", 0, 0, 2990),)
        six = ("put", 0, (("y", 0, 0, 6),))
        four, five = [("put", 2990, (("z", 0, 0, many),)) for many in (4, 5)]
        self.assertEqual(len(film(joined(row, [six], [four])[2])), 3000)
        self.assertEqual(len(film(joined(row, [four], [six])[2])), 3000)
        self.assertEqual(refusal(joined, row, [six], [five]), TooLong)
        self.assertEqual(refusal(joined, row, [five], [six]), TooLong)
        self.assertIsNone(clash(row, [six], [five]))
        # They clash, and would be too long as well.
        both = ("put", 2990, (("y", 0, 0, 6),))
        self.assertEqual(refusal(joined, row, [both], [five]), Clash)

    def test_too_long_one_by_one(self):
        row = (("a", 0, 0, 2990),)
        six = [("put", 0, (("y", 0, 0, 6),)), ("out", 0, (("y", 0, 0, 6),))]
        others = [("put", 2990, (("z", 0, 0, 5),)), ("out", 0, (("a", 0, 0, 5),))]
        # The other's put comes behind all of the one's deeds, so there are 2995 frames at most.
        self.assertEqual(refusal(joined, row, six, others[:1]), None)
        # Here the one's put is there still, when the other's is done.
        self.assertEqual(refusal(joined, row, six[:1], [others[0], ("out", 1, (("a", 0, 0, 5),))]), TooLong)


class NothingIsChanged(JoinedTest):
    def test_lists_stay_and_told_ones_are_new(self):
        ones = [("put", 1, PART)]
        others = [("out", 3, (("a", 3, 1, 2),))]
        for call in BOTH:
            call(ROW, ones, others)
        self.assertEqual((ones, others), ([("put", 1, PART)], [("out", 3, (("a", 3, 1, 2),))]))
        for some, more in ((ones, others), (ones, []), ([], others), ([], [])):
            told = joined(ROW, some, more)
            told[0].append(None)
            told[1].append(None)
            again = joined(ROW, some, more)
            self.assertNotIn(None, again[0] + again[1] + some + more)
        self.assertEqual((ones, others), ([("put", 1, PART)], [("out", 3, (("a", 3, 1, 2),))]))
