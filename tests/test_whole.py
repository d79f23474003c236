"""0.1, 0.2, 0.3, over all files: asked twice, told alike; what is handed in stays; things led through several files."""

import copy
import random
import unittest

from cutroom.benches import Bench
from cutroom.changes import changes, frames_kept
from cutroom.counts import black_in, how_many, reels_in, seen_often, shared, unseen
from cutroom.cuts import cut_out, laid_over, lifted, moved, parted, put_in, taken, turned_about
from cutroom.deeds import contrary, done, exchanged
from cutroom.desk import Desk
from cutroom.errors import CutError
from cutroom.joining import clash, joined
from cutroom.journals import Journal
from cutroom.lists import first_fault, list_of, read_list
from cutroom.mixes import mixed_film, rooms
from cutroom.pulls import pulled_row, pulled_shelf, pulls, row_again
from cutroom.rows import checked, film, frame_at, least, least_of, length, same_film
from cutroom.rowtexts import read_row, row_text
from cutroom.stacks import Stack, drift
from cutroom.times import later, number_of, size_of_day, time_of, until
from cutroom.trims import head_trimmed, healed, is_of, rolled, slid, slipped, tail_trimmed
from tests.samples import any_deed, any_row, behind, fewest_pieces, runs_of, shown

SHELF = (("ab", 50), ("c", 20))
ROW = (("ab", 5, 1, 3), ("ab", 8, 1, 2), ("", 0, 0, 2), ("c", 9, -1, 4))
PART = (("c", 0, 1, 2),)
PUT, OUT = ("put", 2, PART), ("out", 0, (("ab", 5, 0, 1),))
OVER = ("over", 5, (("", 0, 0, 2),), PART)
TEXT = list_of(ROW, "01:00:00:00", 25)
PULLED = [("ab", 5, 5), ("ab", 20, 2), ("c", 6, 4)]

TOLD = (
    (checked, ROW), (length, ROW), (film, ROW), (least, ROW), (frame_at, ROW, 3), (least_of, film(ROW)),
    (same_film, ROW, least(ROW)),
    (parted, ROW, 2), (put_in, ROW, 1, PART), (laid_over, ROW, 1, PART), (cut_out, ROW, 1, 3), (taken, ROW, 1, 3),
    (lifted, ROW, 1, 3), (moved, ROW, 1, 3, 0), (turned_about, ROW),
    (is_of, SHELF, ROW), (head_trimmed, SHELF, ROW, 0, 1), (tail_trimmed, SHELF, ROW, 3, 2),
    (slipped, SHELF, ROW, 3, 3),
    (rolled, SHELF, ROW, 0, 1), (slid, SHELF, ROW, 2, 1), (healed, ROW, 0), (drift, ROW, turned_about(ROW)),
    (done, ROW, PUT), (contrary, OVER), (exchanged, OUT, OVER),
    (clash, ROW, [OUT], [PUT, PUT]), (joined, ROW, [OUT], [PUT, OVER[:1] + (7,) + OVER[2:]]),
    (clash, ROW, [PUT], [PUT]),
    (size_of_day, "drop"), (time_of, 5000, "drop"), (number_of, "00:10:00;00", "drop"), (later, "23:59:59:24", 1, 25),
    (until, "00:00:00:01", "00:00:00:00", 30), (list_of, ROW, "01:00:00:00", 25), (first_fault, TEXT + "\n", 25),
    (read_list, TEXT, 25),
    (pulls, SHELF, (ROW, PART), 2), (pulled_shelf, PULLED), (pulled_row, PULLED, ROW), (row_again, PULLED, PART),
    (mixed_film, SHELF, ROW, ((0, 1), (2, 2))), (mixed_film, SHELF, ROW, ()), (rooms, SHELF, ROW),
    (changes, ROW, PART), (changes, ROW, ROW), (frames_kept, ROW, turned_about(ROW)),
    (reels_in, ROW), (how_many, ROW), (black_in, ROW), (seen_often, ROW + ROW), (shared, ROW, PART), (shared, ROW, ROW),
    (unseen, SHELF, ROW), (row_text, ROW), (read_row, "ab+5x3 -=0x2"), (read_row, ""),
)
# With lists among what is handed in.
REFUSED = (
    (checked, [["ab", 5, 1, 3]]), (film, ROW + ([1],)), (least_of, [("ab", 1), ["ab", 2]]), (put_in, ROW, [0], [PART]),
    (head_trimmed, [("ab", 5)], ROW, 0, 0), (slid, SHELF, ROW, [1], [0]), (Stack, [ROW], [(0,)]),
    (Stack, (ROW,), ([0],)),
    (done, ROW, ["put", 0, PART]), (exchanged, PUT, ["put", 0, [PART]]), (joined, ROW, [OUT, [PUT]], []),
    (joined, ROW, [PUT], [PUT]), (time_of, [5], 24), (number_of, ["00:00:00:00"], 24), (size_of_day, [24]),
    (later, "00:00:00:00", [1], 24), (list_of, [ROW], [], []), (read_list, [TEXT], 25), (Journal, [ROW]),
    (pulls, SHELF, [ROW], [0]), (pulled_shelf, [["ab", 5, 3]]), (pulled_row, PULLED[::-1], ROW),
    (row_again, PULLED + PULLED, ROW), (pulled_row, PULLED[:1], ROW), (row_again, PULLED, (("c", 9, -1, 4),)),
    (mixed_film, SHELF, ROW, [(0, 1)]), (mixed_film, SHELF, ROW, ([0, 1],)), (rooms, [SHELF], ROW),
    (changes, ROW, [PART]), (frames_kept, [], ROW),
    (Desk, [SHELF], 25), (Desk, SHELF, [25]), (reels_in, [ROW]), (how_many, [ROW]), (black_in, []),
    (seen_often, ROW + ([1],)), (shared, ROW, [PART]), (unseen, SHELF, [ROW]), (unseen, [SHELF], ROW), (Bench, [ROW]),
    (row_text, [ROW]), (read_row, ["ab+5x3"]),
)
CALLS = TOLD + REFUSED


def answer(call):
    try:
        told = call[0](*call[1:])
    except CutError as error:
        return type(error)
    # Behind the return what is told is changed, as far as it can be; so it must not be told again.
    kept = copy.deepcopy(told)
    for thing in told if isinstance(told, tuple) else (told,):
        if isinstance(thing, list):
            thing.append("changed")
            thing.reverse()
    return kept


class AskedTwice(unittest.TestCase):
    def test_told_alike_and_nothing_is_changed(self):
        before = copy.deepcopy([call[1:] for call in CALLS])
        first = [answer(call) for call in CALLS]
        self.assertEqual([call[1:] for call in CALLS], before)
        again = [answer(call) for call in reversed(CALLS)]
        self.assertEqual(again[::-1], first)
        self.assertEqual([answer(call) for call in CALLS], first)
        self.assertEqual([call[1:] for call in CALLS], before)
        refused = [call for call, told in zip(CALLS, first) if isinstance(told, type)]
        self.assertEqual(refused, list(REFUSED))


class ObjectsOfTheirOwn(unittest.TestCase):
    def test_stacks_and_journals_side_by_side(self):
        stacks = [Stack((ROW, PART), ((0, 1),)) for number in range(2)]
        journals = [Journal(ROW) for number in range(2)]
        stacks[0].put(0, 1, PART)
        journals[0].do(PUT)
        self.assertEqual(stacks[1].ends(), (11, 2))
        self.assertEqual((journals[1].now(), journals[1].deeds()), (least(ROW), []))
        stacks[1].put(0, 1, PART)
        journals[1].do(PUT)
        for number in range(2):
            self.assertEqual(stacks[0].lane(number), stacks[1].lane(number))
        self.assertEqual(journals[0].now(), journals[1].now())
        self.assertEqual(journals[0].deeds(), journals[1].deeds())

    def test_benches_and_desks_side_by_side(self):
        benches = [Bench(ROW) for number in range(2)]
        desks = [Desk(SHELF, 25) for number in range(2)]
        benches[0].put(1, PART)
        self.assertEqual(desks[0].say("put 0 ab + 5 3"), "done")
        self.assertEqual((benches[1].now(), benches[1].counts()), (ROW, (0, 0)))
        self.assertEqual(desks[1].say("many"), "0 frames, 0 deeds")
        benches[1].put(1, PART)
        self.assertEqual(desks[1].say("put 0 ab + 5 3"), "done")
        self.assertEqual(benches[0].now(), benches[1].now())
        self.assertEqual(desks[0].say("list 01:00:00:00"), desks[1].say("list 01:00:00:00"))


REELS = (("a", 40), ("ab", 25), ("c", 300))
RATES = (24, 25, 30, "drop")


def start_at(rate):
    return "10:00:00;00" if rate == "drop" else "10:00:00:00"


class LedThrough(unittest.TestCase):
    """One thing through several files; the film that is held against them is kept frame by frame, by lists alone."""

    def check_told(self, row, frames):
        self.assertEqual(film(row), frames)
        self.assertEqual(length(row), len(frames))
        self.assertTrue(same_film(row, least(row)))
        self.assertEqual(len(least(row)), fewest_pieces(frames))
        self.assertEqual(least_of(frames), least(row))

    def check_written(self, row, rate):
        start = start_at(rate)
        for written in (row, least(row)):
            self.assertEqual(read_list(list_of(written, start, rate), rate), (start, written))
            self.assertIsNone(first_fault(list_of(written, start, rate), rate))
            self.assertEqual(read_row(row_text(written)), written)

    def check_pulled(self, row, handle):
        pulled = pulls(REELS, (row,), handle)
        led = pulled_row(pulled, row)
        self.assertEqual(row_again(pulled, led), least(row))
        self.assertEqual(len(film(led)), len(film(row)))
        self.assertEqual(black_in(led), black_in(row))
        self.assertEqual(how_many(led), how_many(row))
        self.assertEqual([name for name, many in pulled_shelf(pulled)], reels_in(row))
        if pulled:
            self.assertTrue(is_of(pulled_shelf(pulled), led))
        if handle == 0 and pulled:
            # Nothing else is pulled: the led row shows all that its shelf has.
            self.assertEqual(unseen(pulled_shelf(pulled), led), [])
            whole = {(name, number) for name, many in REELS for number in range(many)}
            self.assertEqual(unseen(REELS, row), runs_of(whole - set(shown(row))))

    def check_kept(self, row, frames, chance):
        # Deeds in a journal are undone in any order, as far as they can be, and nothing is left of them.
        journal = Journal(row)
        for number in range(6):
            deed = any_deed(chance, frames, number, ("k", "l"))
            journal.do(deed)
            frames = behind(frames, deed)
            self.assertEqual(film(journal.now()), frames)
        while journal.deeds():
            free = [number for number in range(len(journal.deeds())) if journal.held_by(number) is None]
            journal.take_back(chance.choice(free))
        self.assertEqual(journal.now(), least(row))

    def check_changed(self, old, new):
        row = old
        for deed in changes(old, new):
            row = done(row, deed)
        self.assertEqual(film(row), film(new))
        many = length(old) - frames_kept(old, new)
        self.assertEqual(sum(length(deed[2]) for deed in changes(old, new) if deed[0] == "out"), many)

    def cut_anyhow(self, row, frames, chance):
        place = chance.randrange(len(frames) + 1)
        many = chance.randrange(len(frames) - place + 1)
        more = any_row(chance, REELS, 2, 5)
        ahead, within, rest = frames[:place], frames[place:place + many], frames[place + many:]
        return chance.choice((
            (put_in(row, place, more), ahead + shown(more) + within + rest),
            (cut_out(row, place, many), ahead + rest),
            (lifted(row, place, many), ahead + [("", 0)] * many + rest),
            (laid_over(row, place, more), ahead + shown(more) + frames[place + len(shown(more)):]),
            (moved(row, place, many, len(ahead + rest)), ahead + rest + within),
            (turned_about(row), frames[::-1]),
        ))

    def trim_anyhow(self, row, chance):
        call = chance.choice((head_trimmed, tail_trimmed, slipped, rolled, slid))
        number, by = chance.randrange(len(row) + 1), chance.randrange(-3, 4)
        try:
            told = call(REELS, row, number, by)
        except CutError:
            return row
        self.assertEqual(call(REELS, told, number, -by), row)
        self.assertTrue(is_of(REELS, told))
        return told

    def test_a_row_led_through_all(self):
        chance = random.Random(3)
        for turn in range(60):
            row = any_row(chance, REELS, chance.randrange(1, 6), 8)
            frames = shown(row)
            for step in range(4):
                before = row
                row, frames = self.cut_anyhow(row, frames, chance)
                self.check_told(row, frames)
                row = self.trim_anyhow(row, chance)
                frames = shown(row)
                self.check_told(row, frames)
                self.check_changed(before, row)
            self.check_written(row, RATES[turn % 4])
            self.check_pulled(row, turn % 3)
            self.check_kept(row, frames, chance)

    def test_a_row_mixed_where_it_joins(self):
        chance = random.Random(4)
        for turn in range(100):
            row = any_row(chance, REELS, chance.randrange(6), 6)
            mixes = tuple((number, many) for number, many in enumerate(rooms(REELS, row)) if many > 0)
            told = mixed_film(REELS, row, mixes)
            self.assertEqual([frame if len(frame) == 2 else frame[1] for frame in told], film(row))
            # What goes on is on the reel, so that the piece trimmed by as much shows it, too.
            for number, many in mixes:
                longer = tail_trimmed(REELS, row, number, many)
                place = length(row[:number + 1])
                self.assertEqual([frame[0] for frame in told[place:place + many]], film(longer)[place:place + many])

    def test_a_desk_a_journal_and_a_bench_alike(self):
        chance = random.Random(5)
        for turn in range(40):
            desk, journal, bench = Desk(REELS, 25), Journal(()), Bench(())
            words = []
            for step in range(12):
                size = length(journal.now())
                place = chance.randrange(size + 1)
                many = chance.randrange(1, 5)
                if chance.randrange(3) and size < 100 or place + many > size:
                    (piece,) = any_row(chance, REELS, 1, 6)
                    name, first, sign, frames = piece
                    line = f"put {place} {name or '-'} {'=+-'[sign]} {first} {frames}"
                    journal.do(("put", place, least((piece,))))
                    self.assertEqual(bench.put(place, (piece,)), size + frames)
                    words.append("put")
                else:
                    line = f"out {place} {many}"
                    journal.do(("out", place, least(taken(journal.now(), place, many))))
                    self.assertEqual(bench.cut(place, many), size - many)
                    words.append("cut")
                self.assertEqual(desk.say(line), "done")
                self.assertEqual(least(bench.now()), journal.now())
            text = desk.say("list 01:00:00:00")
            self.assertEqual(read_list(text, 25), ("01:00:00:00", journal.now()))
            self.assertEqual(desk.say("many"), f"{length(bench.now())} frames, {bench.counts()[0]} deeds")
            # The last deed is held by none, so all three go back to the beginning.
            for number, word in reversed(list(enumerate(words))):
                self.assertEqual(desk.say(f"back {number}"), "done")
                journal.take_back(number)
                self.assertEqual(bench.back(), word)
                self.assertEqual(least(bench.now()), journal.now())
            self.assertEqual(bench.now(), ())

    def test_two_cutters_joined_and_changed(self):
        chance = random.Random(6)
        met = 0
        for turn in range(200):
            row = any_row(chance, REELS, 3, 6)
            lists = []
            for name in ("k", "l"):
                frames, deeds = shown(row), []
                for number in range(2):
                    deeds.append(any_deed(chance, frames, number, (name,)))
                    frames = behind(frames, deeds[-1])
                lists.append(deeds)
            if clash(row, *lists) is None:
                met += 1
                others, ones, last = joined(row, *lists)
                for first, second in ((lists[0], others), (lists[1], ones)):
                    told = row
                    for deed in first + second:
                        told = done(told, deed)
                    self.assertEqual(told, last)
                self.check_changed(row, last)
                self.assertEqual(read_row(row_text(last)), last)
        self.assertGreater(met, 20)
