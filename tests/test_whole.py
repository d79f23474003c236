"""0.3, over all files: asked twice, told alike; what is handed in stays; nothing hangs on what was asked before."""

import copy
import unittest

from cutroom.changes import changes, frames_kept
from cutroom.cuts import cut_out, laid_over, lifted, moved, parted, put_in, taken, turned_about
from cutroom.deeds import contrary, done, exchanged
from cutroom.errors import CutError
from cutroom.joining import clash, joined
from cutroom.journals import Journal
from cutroom.lists import first_fault, list_of, read_list
from cutroom.mixes import mixed_film, rooms
from cutroom.pulls import pulled_row, pulled_shelf, pulls, row_again
from cutroom.rows import checked, film, frame_at, least, least_of, length, same_film
from cutroom.stacks import Stack, drift
from cutroom.times import later, number_of, size_of_day, time_of, until
from cutroom.trims import head_trimmed, healed, is_of, rolled, slid, slipped, tail_trimmed

SHELF = (("ab", 50), ("c", 20))
ROW = (("ab", 5, 1, 3), ("ab", 8, 1, 2), ("", 0, 0, 2), ("c", 9, -1, 4))
PART = (("c", 0, 1, 2),)
PUT, OUT = ("put", 2, PART), ("out", 0, (("ab", 5, 0, 1),))
OVER = ("over", 5, (("", 0, 0, 2),), PART)
TEXT = list_of(ROW, "01:00:00:00", 25)
PULLED = [("ab", 5, 5), ("ab", 20, 2), ("c", 6, 4)]

TOLD = (
    (checked, ROW), (length, ROW), (film, ROW), (least, ROW), (frame_at, ROW, 3), (least_of, film(ROW)),
    (same_film, ROW, least(ROW)),
    (parted, ROW, 2), (put_in, ROW, 1, PART), (laid_over, ROW, 1, PART), (cut_out, ROW, 1, 3), (taken, ROW, 1, 3),
    (lifted, ROW, 1, 3), (moved, ROW, 1, 3, 0), (turned_about, ROW),
    (is_of, SHELF, ROW), (head_trimmed, SHELF, ROW, 0, 1), (tail_trimmed, SHELF, ROW, 3, 2),
    (slipped, SHELF, ROW, 3, 3),
    (rolled, SHELF, ROW, 0, 1), (slid, SHELF, ROW, 2, 1), (healed, ROW, 0), (drift, ROW, turned_about(ROW)),
    (done, ROW, PUT), (contrary, OVER), (exchanged, OUT, OVER),
    (clash, ROW, [OUT], [PUT, PUT]), (joined, ROW, [OUT], [PUT, OVER[:1] + (7,) + OVER[2:]]),
    (clash, ROW, [PUT], [PUT]),
    (size_of_day, "drop"), (time_of, 5000, "drop"), (number_of, "00:10:00;00", "drop"), (later, "23:59:59:24", 1, 25),
    (until, "00:00:00:01", "00:00:00:00", 30), (list_of, ROW, "01:00:00:00", 25), (first_fault, TEXT + "\n", 25),
    (read_list, TEXT, 25),
    (pulls, SHELF, (ROW, PART), 2), (pulled_shelf, PULLED), (pulled_row, PULLED, ROW), (row_again, PULLED, PART),
    (mixed_film, SHELF, ROW, ((0, 1), (2, 2))), (mixed_film, SHELF, ROW, ()), (rooms, SHELF, ROW),
    (changes, ROW, PART), (changes, ROW, ROW), (frames_kept, ROW, turned_about(ROW)),
)
# With lists among what is handed in.
REFUSED = (
    (checked, [["ab", 5, 1, 3]]), (film, ROW + ([1],)), (least_of, [("ab", 1), ["ab", 2]]), (put_in, ROW, [0], [PART]),
    (head_trimmed, [("ab", 5)], ROW, 0, 0), (slid, SHELF, ROW, [1], [0]), (Stack, [ROW], [(0,)]),
    (Stack, (ROW,), ([0],)),
    (done, ROW, ["put", 0, PART]), (exchanged, PUT, ["put", 0, [PART]]), (joined, ROW, [OUT, [PUT]], []),
    (joined, ROW, [PUT], [PUT]), (time_of, [5], 24), (number_of, ["00:00:00:00"], 24), (size_of_day, [24]),
    (later, "00:00:00:00", [1], 24), (list_of, [ROW], [], []), (read_list, [TEXT], 25), (Journal, [ROW]),
    (pulls, SHELF, [ROW], [0]), (pulled_shelf, [["ab", 5, 3]]), (pulled_row, PULLED[::-1], ROW),
    (row_again, PULLED + PULLED, ROW), (pulled_row, PULLED[:1], ROW), (row_again, PULLED, (("c", 9, -1, 4),)),
    (mixed_film, SHELF, ROW, [(0, 1)]), (mixed_film, SHELF, ROW, ([0, 1],)), (rooms, [SHELF], ROW),
    (changes, ROW, [PART]), (frames_kept, [], ROW),
)
CALLS = TOLD + REFUSED


def answer(call):
    try:
        told = call[0](*call[1:])
    except CutError as error:
        return type(error)
    # Behind the return what is told is changed, as far as it can be; so it must not be told again.
    kept = copy.deepcopy(told)
    for thing in told if isinstance(told, tuple) else (told,):
        if isinstance(thing, list):
            thing.append("changed")
            thing.reverse()
    return kept


class AskedTwice(unittest.TestCase):
    def test_told_alike_and_nothing_is_changed(self):
        before = copy.deepcopy([call[1:] for call in CALLS])
        first = [answer(call) for call in CALLS]
        self.assertEqual([call[1:] for call in CALLS], before)
        again = [answer(call) for call in reversed(CALLS)]
        self.assertEqual(again[::-1], first)
        self.assertEqual([answer(call) for call in CALLS], first)
        self.assertEqual([call[1:] for call in CALLS], before)
        refused = [call for call, told in zip(CALLS, first) if isinstance(told, type)]
        self.assertEqual(refused, list(REFUSED))


class ObjectsOfTheirOwn(unittest.TestCase):
    def test_stacks_and_journals_side_by_side(self):
        stacks = [Stack((ROW, PART), ((0, 1),)) for number in range(2)]
        journals = [Journal(ROW) for number in range(2)]
        stacks[0].put(0, 1, PART)
        journals[0].do(PUT)
        self.assertEqual(stacks[1].ends(), (11, 2))
        self.assertEqual((journals[1].now(), journals[1].deeds()), (least(ROW), []))
        stacks[1].put(0, 1, PART)
        journals[1].do(PUT)
        for number in range(2):
            self.assertEqual(stacks[0].lane(number), stacks[1].lane(number))
        self.assertEqual(journals[0].now(), journals[1].now())
        self.assertEqual(journals[0].deeds(), journals[1].deeds())
