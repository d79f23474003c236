"""15.1, 0.2 (j), 0.3: benches."""

import itertools
import random
import unittest

from cutroom.benches import Bench
from cutroom.cuts import cut_out, put_in, turned_about
from cutroom.errors import BadRow, NoPlace, NoStep, TooLong
from tests.samples import FULL_ROWS, HUGE, NO_ROWS, NO_WHOLE_NUMBERS, ROWS, any_row, refusal, shown

SHELF = (("a", 12), ("b", 9), ("c", 20))
ROW = (("ab", 5, 1, 3), ("c", 9, -1, 4))
MORE = (("z", 0, 0, 2), ("z", 1, 1, 1))


class Mirror:
    """Keeps all rows there were, the words of the steps between them, and at which of them it stands."""

    def __init__(self, row):
        self.rows = [row]
        self.words = []
        self.at = 0

    def step(self, word, row):
        del self.rows[self.at + 1:]
        del self.words[self.at:]
        self.rows.append(row)
        self.words.append(word)
        self.at += 1

    def twin(self):
        other = Mirror(None)
        other.rows, other.words, other.at = list(self.rows), list(self.words), self.at
        return other


class BenchTest(unittest.TestCase):
    def check_state(self, bench, mirror):
        self.assertEqual(bench.now(), mirror.rows[mirror.at])
        self.assertEqual(bench.counts(), (mirror.at, len(mirror.words) - mirror.at))

    def step_both(self, chance, bench, mirror):
        row = mirror.rows[mirror.at]
        size = len(shown(row))
        kind = chance.choice(("put", "put", "cut", "turn", "back", "back", "forth", "forth"))
        if kind == "put":
            more = any_row(chance, SHELF, chance.randrange(3), 4)
            place = chance.randrange(size + 1)
            self.assertEqual(bench.put(place, more), size + len(shown(more)))
            mirror.step("put", put_in(row, place, more))
        elif kind == "cut":
            place = chance.randrange(size + 1)
            many = chance.randrange(min(size - place, 5) + 1)
            self.assertEqual(bench.cut(place, many), size - many)
            mirror.step("cut", cut_out(row, place, many))
        elif kind == "turn":
            self.assertEqual(bench.turn(), size)
            mirror.step("turn", turned_about(row))
        elif mirror.at == (0 if kind == "back" else len(mirror.words)):
            self.assertEqual(refusal(getattr(bench, kind)), NoStep)
        elif kind == "back":
            mirror.at -= 1
            self.assertEqual(bench.back(), mirror.words[mirror.at])
        else:
            self.assertEqual(bench.forth(), mirror.words[mirror.at])
            mirror.at += 1

    def there_and_back(self, bench, mirror):
        # All the way to the beginning, all the way to the last step, and to where it was.
        at = mirror.at
        for goal in (0, len(mirror.words), at):
            while mirror.at > goal:
                mirror.at -= 1
                self.assertEqual(bench.back(), mirror.words[mirror.at])
                self.check_state(bench, mirror)
            while mirror.at < goal:
                self.assertEqual(bench.forth(), mirror.words[mirror.at])
                mirror.at += 1
                self.check_state(bench, mirror)
            if goal == 0:
                self.assertEqual(refusal(bench.back), NoStep)
            elif goal == len(mirror.words):
                self.assertEqual(refusal(bench.forth), NoStep)
            self.check_state(bench, mirror)


class Steps(BenchTest):
    def test_a_new_one(self):
        for row in ROWS + FULL_ROWS:
            bench = Bench(row)
            self.assertEqual(bench.now(), row)
            self.assertEqual(bench.counts(), (0, 0))
            for call in (bench.back, bench.forth):
                self.assertEqual(refusal(call), NoStep)
                self.assertEqual((bench.now(), bench.counts()), (row, (0, 0)))

    def test_each_step_and_what_it_tells(self):
        bench = Bench(ROW)
        self.assertEqual(bench.put(1, MORE), 10)
        self.assertEqual(bench.counts(), (1, 0))
        self.assertEqual(bench.back(), "put")
        self.assertEqual(bench.counts(), (0, 1))
        self.assertEqual(bench.cut(2, 3), 4)
        self.assertEqual(bench.counts(), (1, 0))
        self.assertEqual(bench.turn(), 4)
        self.assertEqual(bench.now(), (("c", 6, 1, 2), ("ab", 6, -1, 2)))
        self.assertEqual(bench.counts(), (2, 0))
        self.assertEqual(bench.back(), "turn")
        self.assertEqual(bench.now(), (("ab", 5, 1, 2), ("c", 7, -1, 2)))
        self.assertEqual(bench.counts(), (1, 1))
        self.assertEqual(bench.back(), "cut")
        self.assertEqual(bench.now(), ROW)
        self.assertEqual(bench.counts(), (0, 2))
        self.assertEqual(bench.forth(), "cut")
        self.assertEqual(bench.forth(), "turn")
        self.assertEqual(bench.now(), (("c", 6, 1, 2), ("ab", 6, -1, 2)))
        self.assertEqual(refusal(bench.forth), NoStep)

    def test_the_row_behind_each_step_piece_by_piece(self):
        bench = Bench(ROW)
        self.assertEqual(bench.put(1, MORE), 10)
        self.assertEqual(bench.now(), (("ab", 5, 1, 1),) + MORE + (("ab", 6, 1, 2), ("c", 9, -1, 4)))
        self.assertEqual(bench.cut(1, 3), 7)
        # What was parted stays parted, though one piece would show the same.
        self.assertEqual(bench.now(), (("ab", 5, 1, 1), ("ab", 6, 1, 2), ("c", 9, -1, 4)))
        self.assertEqual(bench.turn(), 7)
        self.assertEqual(bench.now(), (("c", 6, 1, 4), ("ab", 7, -1, 2), ("ab", 5, -1, 1)))

    def test_steps_that_change_nothing(self):
        for row in ((), ROW, (("a", 5, 0, 2),)):
            bench = Bench(row)
            size = len(shown(row))
            self.assertEqual(bench.put(0, ()), size)
            self.assertEqual(bench.cut(size, 0), size)
            self.assertEqual(bench.turn(), size)
            self.assertEqual(bench.turn(), size)
            self.assertEqual(bench.now(), row)
            self.assertEqual(bench.counts(), (4, 0))
            self.assertEqual([bench.back() for step in range(4)], ["turn", "turn", "cut", "put"])
            self.assertEqual(bench.counts(), (0, 4))
            self.assertEqual([bench.forth() for step in range(4)], ["put", "cut", "turn", "turn"])
            bench.back()
            self.assertEqual(bench.put(0, ()), size)
            self.assertEqual(bench.counts(), (4, 0))
            self.assertEqual(refusal(bench.forth), NoStep)
            self.assertEqual(bench.now(), turned_about(row))

    def test_parted_where_no_frame_is_put_in_or_cut_out(self):
        for kind in ("put", "cut"):
            bench = Bench(ROW)
            self.assertEqual(bench.put(2, ()) if kind == "put" else bench.cut(2, 0), 7)
            self.assertEqual(bench.now(), (("ab", 5, 1, 2), ("ab", 7, 1, 1), ("c", 9, -1, 4)))
            self.assertEqual(bench.back(), kind)
            self.assertEqual(bench.now(), ROW)

    def test_a_step_behind_one_that_was_taken_back(self):
        bench = Bench(ROW)
        bench.put(0, MORE)
        bench.cut(0, 1)
        bench.turn()
        bench.back()
        bench.back()
        self.assertEqual(bench.counts(), (1, 2))
        self.assertEqual(bench.cut(9, 1), 9)
        self.assertEqual(bench.counts(), (2, 0))
        self.assertEqual(refusal(bench.forth), NoStep)
        self.assertEqual(bench.now(), MORE + (("ab", 5, 1, 3), ("c", 9, -1, 3)))
        self.assertEqual((bench.back(), bench.now()), ("cut", MORE + ROW))
        self.assertEqual((bench.back(), bench.now()), ("put", ROW))
        self.assertEqual(refusal(bench.back), NoStep)

    def test_any_steps(self):
        chance = random.Random(15)
        for turn in range(120):
            row = any_row(chance, SHELF, chance.randrange(4), 4)
            bench, mirror = Bench(row), Mirror(row)
            for step in range(25):
                self.step_both(chance, bench, mirror)
                self.check_state(bench, mirror)
            self.there_and_back(bench, mirror)


class Refusals(BenchTest):
    def setUp(self):
        self.bench = Bench(ROW)
        self.bench.cut(0, 0)
        self.bench.turn()
        self.bench.turn()
        self.bench.back()

    def check_refused(self, wrong, call, *things):
        before = (self.bench.now(), self.bench.counts())
        self.assertEqual(refusal(call, *things), wrong, things)
        self.assertEqual((self.bench.now(), self.bench.counts()), before)

    def tearDown(self):
        # What was refused has left what can be taken back and done again, too.
        self.assertEqual(self.bench.counts(), (2, 1))
        self.assertEqual((self.bench.forth(), self.bench.now()), ("turn", ROW))
        self.assertEqual([self.bench.back() for step in range(3)], ["turn", "turn", "cut"])
        self.assertEqual(self.bench.now(), ROW)

    def test_bad_row(self):
        for row in NO_ROWS:
            self.assertEqual(refusal(Bench, row), BadRow)
            for place in (0, 8, None):
                self.check_refused(BadRow, self.bench.put, place, row)

    def test_no_place(self):
        for place in NO_WHOLE_NUMBERS + (-1, 8, HUGE, -HUGE):
            for more in ((), MORE, FULL_ROWS[0]):
                self.check_refused(NoPlace, self.bench.put, place, more)
            for many in (0, 1, None):
                self.check_refused(NoPlace, self.bench.cut, place, many)

    def test_no_such_count(self):
        for many in NO_WHOLE_NUMBERS + (-1, 8, HUGE, -HUGE):
            self.check_refused(NoPlace, self.bench.cut, 0, many)
        for place, many in itertools.product(range(8), range(9)):
            if place + many > 7:
                self.check_refused(NoPlace, self.bench.cut, place, many)

    def test_too_long(self):
        for place in range(8):
            for more in FULL_ROWS + ((("a", 0, 0, 2994),),):
                self.check_refused(TooLong, self.bench.put, place, more)
        twin = self.bench.twin()
        self.assertEqual(twin.put(7, (("a", 0, 0, 2993),)), 3000)
        self.assertEqual(refusal(twin.put, 0, (("a", 0, 0, 1),)), TooLong)
        self.assertEqual(twin.put(0, ()), 3000)


class Twins(BenchTest):
    def test_as_the_other_one_and_by_itself(self):
        bench = Bench(ROW)
        bench.put(1, MORE)
        bench.turn()
        bench.cut(0, 2)
        bench.back()
        twin = bench.twin()
        self.assertEqual((twin.now(), twin.counts()), (bench.now(), (2, 1)))
        self.assertEqual(twin.forth(), "cut")
        self.assertEqual((bench.counts(), twin.counts()), ((2, 1), (3, 0)))
        self.assertEqual(bench.put(0, ()), 10)
        self.assertEqual((bench.counts(), twin.counts()), ((3, 0), (3, 0)))
        self.assertEqual([twin.back() for step in range(3)], ["cut", "turn", "put"])
        self.assertEqual(twin.now(), ROW)
        self.assertEqual([bench.back() for step in range(3)], ["put", "turn", "put"])
        self.assertEqual(bench.now(), ROW)
        self.assertEqual([twin.forth() for step in range(3)], ["put", "turn", "cut"])
        self.assertEqual(bench.counts(), (0, 3))

    def test_the_first_one_goes_on_and_the_twin_stays(self):
        bench = Bench(ROW)
        bench.turn()
        twin = bench.twin()
        for step in (bench.back, bench.forth, bench.turn, lambda: bench.put(0, MORE), lambda: bench.cut(0, 1)):
            step()
            self.assertEqual((twin.now(), twin.counts()), (turned_about(ROW), (1, 0)))
        self.assertEqual((twin.back(), twin.now()), ("turn", ROW))

    def test_twins_of_twins(self):
        chance = random.Random(16)
        for turn in range(40):
            row = any_row(chance, SHELF, chance.randrange(4), 4)
            pairs = [(Bench(row), Mirror(row))]
            for step in range(40):
                bench, mirror = chance.choice(pairs)
                if chance.randrange(8) == 0:
                    pairs.append((bench.twin(), mirror.twin()))
                else:
                    self.step_both(chance, bench, mirror)
                for bench, mirror in pairs:
                    self.check_state(bench, mirror)
            for bench, mirror in pairs:
                self.there_and_back(bench, mirror)
            for bench, mirror in pairs:
                self.check_state(bench, mirror)
