"""6.1, 6.2, 0.2 (e), 0.3: journals."""

import itertools
import random
import unittest

from cutroom.deeds import contrary, done
from cutroom.errors import BadDeed, BadRow, Held, NoDeed, NotSo, TooLong
from cutroom.journals import Journal
from cutroom.rows import film, least, least_of
from tests.samples import (
    FULL_ROWS, HUGE, NO_DEEDS, NO_ROWS, NO_WHOLE_NUMBERS, PART, ROWS, any_deed, deeds_on, exchange_reckoned, holder,
    part_of, refusal, shown,
)

ROW = (("a", 0, 1, 6),)


class Cell:
    def __init__(self, frame):
        self.frames = [frame]
        self.there = True


class Mirror:
    """Keeps each frame in a cell of its own for ever: one that is cut out is just not seen."""

    def __init__(self, frames):
        self.cells = [Cell(frame) for frame in frames]
        self.kept = []

    def seen(self):
        return [cell for cell in self.cells if cell.there]

    def frames(self):
        return [cell.frames[-1] for cell in self.seen()]

    def do(self, deed):
        kind, place, part = deed[:3]
        frames = shown(part)
        seen = self.seen()
        if kind == "put":
            cells = [Cell(frame) for frame in frames]
            at = self.cells.index(seen[place]) if place < len(seen) else len(self.cells)
            self.cells[at:at] = cells
        else:
            cells = seen[place:place + len(frames)]
            for cell, frame in zip(cells, shown(deed[-1])):
                if kind == "out":
                    cell.there = False
                else:
                    cell.frames.append(frame)
        self.kept.append((kind, cells))

    def take_back(self, number):
        kind, cells = self.kept.pop(number)
        for cell in cells:
            if kind == "put":
                self.cells.remove(cell)
            elif kind == "out":
                cell.there = True
            else:
                cell.frames.pop()


class JournalTest(unittest.TestCase):
    def check_all(self, journal, mirror, beginning):
        kept = journal.deeds()
        self.assertEqual(film(journal.now()), mirror.frames())
        self.assertEqual(journal.now(), least_of(mirror.frames()))
        self.assertEqual(journal.beginning(), beginning)
        row = beginning
        for deed in kept:
            row = done(row, deed)
        self.assertEqual(row, journal.now())
        for number in range(len(kept)):
            self.assertEqual(journal.held_by(number), holder(kept, number))
        for number in (-1, len(kept)):
            self.assertEqual(refusal(journal.held_by, number), NoDeed)

    def take_back(self, journal, mirror, number):
        before = (journal.deeds(), journal.now())
        if journal.held_by(number) is not None:
            self.assertEqual(refusal(journal.take_back, number), Held)
            self.assertEqual((journal.deeds(), journal.now()), before)
            return False
        deed = before[0][number]
        others = before[0][:number]
        for other in before[0][number + 1:]:
            other, deed = exchange_reckoned(deed, other)
            others.append(other)
        self.assertEqual(journal.take_back(number), deed)
        self.assertEqual(journal.deeds(), others)
        self.assertEqual(journal.now(), done(before[1], contrary(deed)))
        mirror.take_back(number)
        return True


class Done(JournalTest):
    def test_a_new_one(self):
        for row in ROWS + FULL_ROWS:
            journal = Journal(row)
            self.assertEqual(journal.now(), least(row))
            self.assertEqual(journal.beginning(), least(row))
            self.assertEqual(journal.deeds(), [])

    def test_bad_row(self):
        for row in NO_ROWS:
            self.assertEqual(refusal(Journal, row), BadRow)

    def test_deeds_are_kept(self):
        journal = Journal((("a", 0, 1, 3), ("a", 3, 1, 3)))
        deeds = [("put", 6, (("b", 0, 1, 2),)), ("out", 0, (("a", 0, 1, 2),)), ("over", 0, (("a", 2, 1, 2),), PART)]
        rows = [
            (("a", 0, 1, 6), ("b", 0, 1, 2)), (("a", 2, 1, 4), ("b", 0, 1, 2)), PART + (("a", 4, 1, 2), ("b", 0, 1, 2)),
        ]
        for many, deed in enumerate(deeds):
            self.assertIsNone(journal.do(deed))
            self.assertEqual(journal.deeds(), deeds[:many + 1])
            self.assertEqual(journal.now(), rows[many])
            self.assertEqual(journal.beginning(), ROW)

    def test_refused_deeds_change_nothing(self):
        journal = Journal(FULL_ROWS[0])
        journal.do(("over", 0, (("a", 0, 0, 2),), PART))
        before = (journal.now(), journal.deeds())
        for deed in NO_DEEDS:
            self.assertEqual(refusal(journal.do, deed), BadDeed)
        for deed, want in (
            (("put", 0, PART), TooLong), (("put", 3001, PART), NotSo), (("out", 2999, PART), NotSo),
            (("out", 5, PART), NotSo), (("over", 5, PART, PART), NotSo), (("put", HUGE, PART), NotSo),
        ):
            self.assertEqual(refusal(journal.do, deed), want)
        self.assertEqual((journal.now(), journal.deeds()), before)


class TakenBack(JournalTest):
    def test_plain_ones(self):
        journal = Journal(ROW)
        journal.do(("put", 2, (("b", 0, 0, 3),)))
        journal.do(("out", 7, (("a", 4, 1, 2),)))
        journal.do(("over", 0, (("a", 0, 0, 1),), (("c", 0, 0, 1),)))
        self.assertEqual(journal.take_back(0), ("put", 2, (("b", 0, 0, 3),)))
        self.assertEqual(journal.now(), (("c", 0, 0, 1), ("a", 1, 1, 3)))
        left = [("out", 4, (("a", 4, 1, 2),)), ("over", 0, (("a", 0, 0, 1),), (("c", 0, 0, 1),))]
        self.assertEqual(journal.deeds(), left)
        self.assertEqual(journal.take_back(1), ("over", 0, (("a", 0, 0, 1),), (("c", 0, 0, 1),)))
        self.assertEqual(journal.now(), (("a", 0, 1, 4),))
        self.assertEqual(journal.take_back(0), ("out", 4, (("a", 4, 1, 2),)))
        self.assertEqual(journal.now(), ROW)
        self.assertEqual(journal.deeds(), [])
        self.assertEqual(refusal(journal.take_back, 0), NoDeed)

    def test_told_as_it_was_last(self):
        journal = Journal(ROW)
        journal.do(("out", 4, (("a", 4, 1, 2),)))
        journal.do(("put", 0, (("b", 0, 0, 3),)))
        journal.do(("out", 4, (("a", 1, 0, 1),)))
        self.assertEqual(journal.take_back(0), ("out", 6, (("a", 4, 1, 2),)))
        self.assertEqual(journal.now(), (("b", 0, 0, 3), ("a", 0, 0, 1), ("a", 2, 1, 4)))

    def test_held(self):
        journal = Journal(ROW)
        journal.do(("put", 2, (("b", 0, 0, 3),)))
        journal.do(("put", 0, (("c", 0, 0, 1),)))
        journal.do(("over", 4, (("b", 0, 0, 1),), (("d", 0, 0, 1),)))
        journal.do(("out", 4, (("d", 0, 0, 1),)))
        before = (journal.now(), journal.deeds())
        self.assertEqual([journal.held_by(number) for number in range(4)], [2, None, 3, None])
        self.assertEqual(refusal(journal.take_back, 0), Held)
        self.assertEqual(refusal(journal.take_back, 2), Held)
        self.assertEqual((journal.now(), journal.deeds()), before)
        journal.take_back(1)
        self.assertEqual([journal.held_by(number) for number in range(3)], [1, 2, None])
        for number in (2, 1, 0):
            journal.take_back(number)
        self.assertEqual(journal.now(), ROW)

    def test_two_deeds_of_all_kinds(self):
        frames = [("a", 3 * number) for number in range(4)]
        beginning = part_of(frames)
        for one in deeds_on(frames, "y", (1, 2)):
            between = film(done(beginning, one))
            for other in deeds_on(between, "z", (1, 2)):
                for order in ((0, 0), (1, 0)):
                    journal, mirror = Journal(beginning), Mirror(frames)
                    for deed in (one, other):
                        journal.do(deed)
                        mirror.do(deed)
                    for number in order:
                        if not self.take_back(journal, mirror, number):
                            break
                        self.check_all(journal, mirror, beginning)

    def test_every_order(self):
        chance = random.Random(6)
        freed = 0
        for turn in range(25):
            frames = shown(ROW)
            deeds = []
            for number in range(4):
                deeds.append(any_deed(chance, frames, number, "xyz"))
                frames = film(done(part_of(frames), deeds[-1]))
            films = {}
            for order in itertools.permutations(range(4)):
                freed += self.go_back(deeds, order, films)
        self.assertGreater(freed, 100)

    def go_back(self, deeds, order, films):
        # Whatever the order in which the same deeds are taken back, the same film is left.
        journal, mirror = Journal(ROW), Mirror(shown(ROW))
        for deed in deeds:
            journal.do(deed)
            mirror.do(deed)
        left = list(range(len(deeds)))
        for name in order:
            if not self.take_back(journal, mirror, left.index(name)):
                return False
            left.remove(name)
            self.assertEqual(journal.now(), films.setdefault(tuple(left), journal.now()))
            self.assertEqual(journal.deeds(), films.setdefault((tuple(left), "deeds"), journal.deeds()))
            self.check_all(journal, mirror, ROW)
        self.assertEqual(journal.now(), ROW)
        return True

    def test_many_deeds(self):
        chance = random.Random(62)
        met = set()
        for turn in range(60):
            journal, mirror = Journal(ROW), Mirror(shown(ROW))
            for number in range(14):
                if chance.random() < 0.7 or not mirror.kept:
                    deed = any_deed(chance, mirror.frames(), number, "xyz")
                    journal.do(deed)
                    mirror.do(deed)
                else:
                    at = chance.randrange(len(mirror.kept))
                    kind = mirror.kept[at][0]
                    met.add((kind, self.take_back(journal, mirror, at)))
                self.check_all(journal, mirror, ROW)
        self.assertEqual(met, set(itertools.product(("put", "out", "over"), (True, False))))


class RefusedOnes(JournalTest):
    def test_no_deed(self):
        for many in range(3):
            journal = Journal(ROW)
            for number in range(many):
                journal.do(("put", 0, PART))
            before = (journal.now(), journal.deeds())
            for number in NO_WHOLE_NUMBERS + (-1, -2, many, many + 1, HUGE, -HUGE):
                self.assertEqual(refusal(journal.held_by, number), NoDeed)
                self.assertEqual(refusal(journal.take_back, number), NoDeed)
            self.assertEqual((journal.now(), journal.deeds()), before)

    def test_too_long(self):
        for many in (1, 2, 10):
            journal = Journal((("a", 0, 0, 2990), ("b", 0, 1, 10)))
            journal.do(("out", 2990, (("b", 0, 1, 10),)))
            journal.do(("put", 0, (("c", 0, 0, many),)))
            before = (journal.now(), journal.deeds())
            self.assertIsNone(journal.held_by(0))
            self.assertEqual(refusal(journal.take_back, 0), TooLong)
            self.assertEqual((journal.now(), journal.deeds()), before)
            self.assertEqual(journal.take_back(1), ("put", 0, (("c", 0, 0, many),)))
            self.assertEqual(journal.take_back(0), ("out", 2990, (("b", 0, 1, 10),)))
            self.assertEqual(journal.now(), (("a", 0, 0, 2990), ("b", 0, 1, 10)))

    def test_just_3000(self):
        journal = Journal((("a", 0, 0, 2989), ("b", 0, 1, 10)))
        journal.do(("out", 2989, (("b", 0, 1, 10),)))
        journal.do(("put", 0, (("c", 0, 0, 1),)))
        self.assertEqual(journal.take_back(0), ("out", 2990, (("b", 0, 1, 10),)))
        self.assertEqual(journal.now(), (("c", 0, 0, 1), ("a", 0, 0, 2989), ("b", 0, 1, 10)))

    def test_the_row_at_the_end_counts(self):
        # Without the first deed there would be 3001 frames for a while, but the row that is left has 3000.
        journal = Journal(FULL_ROWS[0])
        journal.do(("out", 2999, (("a", 0, 0, 1),)))
        journal.do(("put", 0, (("c", 0, 0, 1),)))
        journal.do(("out", 5, (("a", 0, 0, 1),)))
        self.assertEqual(journal.take_back(0), ("out", 2999, (("a", 0, 0, 1),)))
        self.assertEqual(journal.now(), (("c", 0, 0, 1), ("a", 0, 0, 2999)))
        self.assertEqual(journal.deeds(), [("put", 0, (("c", 0, 0, 1),)), ("out", 5, (("a", 0, 0, 1),))])

    def test_held_ahead_of_too_long(self):
        journal = Journal(FULL_ROWS[0])
        journal.do(("out", 2999, (("a", 0, 0, 1),)))
        journal.do(("put", 2999, (("c", 0, 0, 1),)))
        self.assertEqual(journal.held_by(0), 1)
        self.assertEqual(refusal(journal.take_back, 0), Held)


class NothingHangsTogether(JournalTest):
    def test_told_anew_each_time(self):
        journal = Journal(ROW)
        journal.do(("put", 0, PART))
        journal.do(("out", 0, PART))
        told = journal.deeds()
        told.clear()
        self.assertEqual(journal.deeds(), [("put", 0, PART), ("out", 0, PART)])
        journal.deeds().append(("put", 0, PART))
        self.assertEqual(len(journal.deeds()), 2)
        self.assertEqual(journal.held_by(0), 1)
        self.assertEqual(journal.now(), ROW)

    def test_what_was_told_stays(self):
        journal = Journal(ROW)
        journal.do(("put", 0, PART))
        told = journal.deeds()
        journal.do(("put", 0, PART))
        journal.take_back(0)
        self.assertEqual(told, [("put", 0, PART)])

    def test_two_journals_of_one_row(self):
        one, other = Journal(ROW), Journal(ROW)
        one.do(("put", 0, PART))
        self.assertEqual((other.now(), other.deeds()), (ROW, []))
        other.do(("out", 0, ROW))
        self.assertEqual((one.now(), one.deeds()), (PART + ROW, [("put", 0, PART)]))
        one.take_back(0)
        self.assertEqual((other.now(), other.deeds()), ((), [("out", 0, ROW)]))
        self.assertEqual(one.beginning(), other.beginning())
