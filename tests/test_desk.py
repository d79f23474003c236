"""13.1, 13.2, 0.3: the desk."""

import itertools
import random
import re
import unittest

from cutroom.desk import Desk
from cutroom.errors import BadRate, BadShelf
from cutroom.lists import list_of, read_list
from tests.samples import HUGE, NO_SHELVES, behind, exchange_reckoned, holder, part_of, refusal, shown

SHELF = (("a", 10000), ("ab", 50), ("c", 20))
RATES = (24, 25, 30, "drop")
NO_RATES = (
    None, True, False, 0, 1, 23, 26, 29, -24, HUGE, "", "24", "Drop", "drop ", "dropped", [], [24], (24,), ["drop"], (),
)
LINE, REEL, PLACE, LONG = "refused: line", "refused: reel", "refused: place", "refused: long"
NUMBER, TIME = "refused: number", "refused: time"

FIGURES = "(0|[1-9][0-9]{0,4})"
PIECE = f"(-|[a-z]{{1,6}}) ([-+=]) {FIGURES} {FIGURES}"
FORMS = (
    re.compile(f"(put|lay) {FIGURES} {PIECE}"), re.compile(f"(out) {FIGURES} {FIGURES}"),
    re.compile(f"(back|held) {FIGURES}"), re.compile("(list) ([^ ]+)"), re.compile("(many)"),
)
STEPS = {"+": 1, "-": -1, "=": 0}

# Words that are no numbers, in the place of one.
NO_NUMBERS = (
    "", "00", "01", "007", "00000", "000001", "100000", "123456", "999999", "1" * 5000, "+1", "-1", "-0", "+0", "1.0",
    "1,0", "1_0", "0x1", "1e1", "a", "x", "-", "=", "\u0661", "1\u0661", "\uff11", "\u00b9", "\u2460", "1\t", "\t1",
    "One", "0 ", " 0",
)


def piece_frames(word, sign, first, many):
    # The frames of a piece, or None where there is no such one.
    name, step = "" if word == "-" else word, STEPS[sign]
    if name == "" and (step != 0 or first != 0):
        return None
    numbers = [first + step * k for k in range(many)]
    if not 1 <= many <= 3000 or min(numbers) < 0 or max(numbers) > 9999:
        return None
    return [(name, number) for number in numbers]


class Mirror:
    """Replies from what the document says of each line, and keeps the film and the deeds by itself."""

    def __init__(self, shelf, rate):
        self.there = {(name, number) for name, many in shelf for number in range(many)} | {("", 0)}
        self.rate = rate
        self.frames = []
        self.kept = []

    def say(self, line):
        found = [form.fullmatch(line) for form in FORMS]
        words = [match.groups() for match in found if match]
        if not words:
            return LINE
        first, *rest = words[0]
        if first == "list":
            return self.listed(*rest)
        if first == "many":
            return f"{len(self.frames)} frames, {len(self.kept)} deeds"
        if first == "out":
            return self.cut(int(rest[0]), int(rest[1]))
        if first in ("back", "held"):
            return self.numbered(first, int(rest[0]))
        return self.placed(first, int(rest[0]), piece_frames(rest[1], rest[2], int(rest[3]), int(rest[4])))

    def placed(self, first, place, frames):
        if frames is None:
            return LINE
        if not self.there.issuperset(frames):
            return REEL
        if place > len(self.frames) or (first == "lay" and place + len(frames) > len(self.frames)):
            return PLACE
        if first == "put":
            return self.done(("put", place, part_of(frames)))
        return self.done(("over", place, part_of(self.frames[place:place + len(frames)]), part_of(frames)))

    def cut(self, place, many):
        if place > len(self.frames) or place + many > len(self.frames) or many == 0:
            return PLACE
        return self.done(("out", place, part_of(self.frames[place:place + many])))

    def done(self, deed):
        frames = behind(self.frames, deed)
        if len(frames) > 3000:
            return LONG
        self.frames = frames
        self.kept.append(deed)
        return "done"

    def numbered(self, first, number):
        if number >= len(self.kept):
            return NUMBER
        held = holder(self.kept, number)
        if first == "held":
            return "free" if held is None else f"held by {held}"
        if held is not None:
            return f"refused: held by {held}"
        deed, kept = self.kept[number], self.kept[:number]
        for other in self.kept[number + 1:]:
            other, deed = exchange_reckoned(deed, other)
            kept.append(other)
        undone = {"put": "out", "out": "put", "over": "over"}[deed[0]]
        frames = behind(self.frames, (undone, deed[1]) + deed[:1:-1])
        if len(frames) > 3000:
            return LONG
        self.frames, self.kept = frames, kept
        return "done"

    def listed(self, start):
        if refusal(list_of, (), start, self.rate):
            return TIME
        if refusal(list_of, part_of(self.frames), start, self.rate):
            return LONG
        return list_of(part_of(self.frames), start, self.rate)


def starts(rate):
    sign, last = (";", 29) if rate == "drop" else (":", rate - 1)
    return (f"01:00:00{sign}00", f"23:59:58{sign}00", f"23:59:59{sign}{last}", f"23:59:59{sign}{last - 1}")


class DeskTest(unittest.TestCase):
    def setUp(self):
        self.desk = Desk(SHELF, 25)
        self.mirror = Mirror(SHELF, 25)

    def state(self):
        kept = len(self.mirror.kept)
        return [self.desk.say(line) for line in ("many", "list 01:00:00:00", *(f"held {k}" for k in range(kept + 1)))]

    def say(self, line, reply):
        before = self.state()
        self.assertEqual(self.mirror.say(line), reply, line)
        self.assertEqual(self.desk.say(line), reply, line)
        self.assertIs(type(reply), str)
        if reply != "done":
            self.assertEqual(self.state(), before)
        self.assertEqual(self.desk.say("many"), f"{len(self.mirror.frames)} frames, {len(self.mirror.kept)} deeds")
        if len(self.mirror.frames) < 2000:
            self.assertEqual(self.shown_now(), self.mirror.frames)

    def say_all(self, *pairs):
        for line, reply in pairs:
            self.say(line, reply)

    def shown_now(self):
        return shown(read_list(self.desk.say("list 01:00:00:00"), 25)[1])


class Deeds(DeskTest):
    def test_put(self):
        self.say_all(
            ("many", "0 frames, 0 deeds"), ("put 0 ab + 5 3", "done"), ("many", "3 frames, 1 deeds"),
            ("put 3 - = 0 2", "done"), ("put 1 c - 9 2", "done"), ("put 0 ab = 49 2", "done"),
            ("many", "9 frames, 4 deeds"),
        )
        self.assertEqual(self.shown_now(), [
            ("ab", 49), ("ab", 49), ("ab", 5), ("c", 9), ("c", 8), ("ab", 6), ("ab", 7), ("", 0), ("", 0),
        ])

    def test_lay(self):
        self.say_all(
            ("lay 0 ab + 5 1", PLACE), ("put 0 ab + 5 6", "done"), ("lay 1 c - 9 2", "done"), ("lay 5 - = 0 1", "done"),
            ("lay 5 ab + 5 2", PLACE), ("lay 6 ab + 5 1", PLACE), ("lay 7 ab + 5 1", PLACE), ("lay 0 ab + 5 7", PLACE),
            ("lay 0 - = 0 6", "done"), ("many", "6 frames, 4 deeds"),
        )

    def test_out(self):
        self.say_all(
            ("out 0 0", PLACE), ("out 0 1", PLACE), ("put 0 ab + 5 6", "done"), ("out 0 0", PLACE), ("out 6 0", PLACE),
            ("out 6 1", PLACE), ("out 7 0", PLACE), ("out 7 1", PLACE), ("out 5 2", PLACE), ("out 0 7", PLACE),
            ("out 99999 99999", PLACE), ("out 5 1", "done"), ("out 1 2", "done"), ("out 0 3", "done"),
            ("many", "0 frames, 4 deeds"), ("out 0 1", PLACE),
        )

    def test_places_at_the_length_and_beyond(self):
        self.say_all(
            ("put 1 ab + 5 3", PLACE), ("put 0 ab + 5 3", "done"), ("put 4 ab + 5 3", PLACE), ("put 3 c + 5 3", "done"),
            ("put 7 c + 5 3", PLACE), ("put 99999 c + 5 3", PLACE), ("put 6 c + 5 3", "done"),
        )

    def test_a_piece_of_one_frame_with_any_step(self):
        for number, sign in enumerate("+-="):
            self.say(f"put 0 ab {sign} {number} 1", "done")
            self.say(f"lay 0 ab {sign} 0 1", "done")
            self.say(f"put 0 ab {sign} 49 1", "done")
        self.assertEqual(self.desk.say("many"), "6 frames, 9 deeds")

    def test_no_such_piece(self):
        self.say("put 0 ab + 0 3", "done")
        for words in (
            "ab + 5 0", "ab = 5 0", "- = 0 0", "ab - 1 3", "ab - 0 2", "a + 9999 2", "a + 9998 3", "a + 10000 1",
            "a = 10000 1", "a = 99999 1", "ab = 5 3001", "ab + 5 3001", "ab + 5 99999", "- = 0 3001", "- = 1 3",
            "- + 0 3", "- - 0 3", "- + 0 1", "- - 0 1", "abcdefg + 5 3", "Ab + 5 3", "a1 + 5 3", "-a + 5 3",
            "\u00e4 + 5 3",
            "ab * 5 3", "ab ++ 5 3", "ab +- 5 3", "ab x 5 3", "+ + 5 3", "= = 0 3", "0 = 0 3", "5 + 5 3",
            "zzzzzzz - 1 3",
        ):
            for first, place in itertools.product(("put", "lay"), (0, 4)):
                self.say(f"{first} {place} {words}", LINE)

    def test_frames_that_the_shelf_does_not_have(self):
        self.say("put 0 ab + 0 3", "done")
        for words in (
            "ab = 50 1", "ab + 49 2", "ab - 50 2", "ab + 0 51", "c = 20 3", "c + 18 3", "b = 0 1", "zz + 0 3",
            "abcdef - 9 3", "c + 0 3000", "ab = 9999 1", "x = 0 1",
        ):
            for first, place in itertools.product(("put", "lay"), (0, 3, 4, 99999)):
                self.say(f"{first} {place} {words}", REEL)
        for words in ("ab = 49 1", "ab + 48 2", "ab - 49 2", "c + 17 3", "a = 9999 1", "a - 9999 3", "- = 0 3"):
            self.say(f"put 0 {words}", "done")

    def test_3000_frames_and_more(self):
        self.say_all(
            ("put 0 a + 0 3000", "done"), ("put 0 ab = 0 1", LONG), ("put 3000 - = 0 1", LONG),
            ("put 3001 ab = 0 1", PLACE),
            ("put 0 a + 0 3000", LONG), ("lay 0 a - 9999 3000", "done"), ("lay 1 a - 9999 3000", PLACE),
            ("many", "3000 frames, 2 deeds"), ("out 0 1", "done"), ("put 2999 c = 3 1", "done"),
            ("put 0 c = 3 1", LONG),
            ("out 0 3000", "done"), ("many", "0 frames, 5 deeds"), ("put 0 c = 3 2999", "done"),
            ("put 7 a = 3 2", LONG),
            ("put 7 a = 3 1", "done"), ("out 0 3001", PLACE), ("out 1 3000", PLACE), ("out 2999 1", "done"),
        )

    def test_of_several_refusals_the_first_one(self):
        self.say("put 0 a + 0 3000", "done")
        for first in ("put", "lay"):
            self.say_all(
                (f"{first} 9999 b + 5 0", LINE), (f"{first} 9999 b + 5 3", REEL), (f"{first} 3000 b + 5 3", REEL),
                (f"{first} 9999 a + 5 3", PLACE), (f"{first} 0x b + 5 3", LINE), (f"{first} 00 b + 5 3", LINE),
            )
        self.say_all(("put 3000 a + 5 3", LONG), ("put 0 zz = 0 3000", REEL), ("out 9999 00", LINE), ("out x 0", LINE))


class TakenBack(DeskTest):
    def test_free_and_done(self):
        self.say_all(
            ("back 0", NUMBER), ("held 0", NUMBER), ("put 0 ab + 5 3", "done"), ("held 0", "free"), ("held 1", NUMBER),
            ("back 1", NUMBER), ("back 99999", NUMBER), ("back 0", "done"), ("many", "0 frames, 0 deeds"),
            ("held 0", NUMBER), ("back 0", NUMBER),
        )

    def test_held(self):
        self.say_all(
            ("put 0 ab + 5 6", "done"), ("put 3 c = 1 2", "done"), ("out 3 1", "done"), ("lay 0 - = 0 1", "done"),
            ("held 0", "held by 1"), ("back 0", "refused: held by 1"), ("held 1", "held by 2"),
            ("back 1", "refused: held by 2"), ("held 2", "free"), ("held 3", "free"), ("held 4", NUMBER),
            ("back 2", "done"), ("many", "8 frames, 3 deeds"), ("held 1", "free"), ("back 1", "done"),
            ("held 0", "held by 1"), ("back 1", "done"), ("held 0", "free"), ("back 0", "done"),
            ("many", "0 frames, 0 deeds"),
        )

    def test_holders_of_two_figures(self):
        for number in range(12):
            self.say(f"put 0 a = {10 * number} 2", "done")
        self.say_all(("lay 1 c = 1 1", "done"), ("held 11", "held by 12"), ("back 11", "refused: held by 12"))
        self.say_all(("held 10", "free"), ("back 10", "done"), ("held 10", "held by 11"), ("back 11", "done"))

    def test_long(self):
        self.say_all(
            ("put 0 a = 0 3000", "done"), ("out 0 1000", "done"), ("put 2000 c = 0 1000", "done"), ("held 1", "free"),
            ("back 1", LONG), ("many", "3000 frames, 3 deeds"), ("back 2", "done"), ("back 1", "done"),
            ("many", "3000 frames, 1 deeds"),
        )


class Lists(DeskTest):
    def test_the_documents_list(self):
        self.say_all(("put 0 ab + 5 3", "done"), ("put 3 - = 0 22", "done"))
        self.say("list 01:00:00:00", "from 01:00:00:00\n0001 ab + 00:00:00:05 00:00:00:07 01:00:00:00 01:00:00:03\n"
                 "0002 - = 00:00:00:00 00:00:00:00 01:00:00:03 01:00:01:00")

    def test_the_least_row_is_listed(self):
        self.say_all(("put 0 ab + 5 3", "done"), ("put 3 ab + 8 3", "done"), ("put 0 ab = 4 1", "done"))
        self.say("list 00:00:00:00", "from 00:00:00:00\n0001 ab + 00:00:00:04 00:00:00:10 00:00:00:00 00:00:00:07")

    def test_each_rate(self):
        for rate in RATES:
            desk, mirror = Desk(SHELF, rate), Mirror(SHELF, rate)
            for line in ("many", "put 0 ab + 5 3", "put 3 a - 9999 40", "put 1 - = 0 2"):
                for start in starts(rate):
                    self.assertEqual(desk.say(f"list {start}"), mirror.say(f"list {start}"))
                self.assertEqual(desk.say(line), mirror.say(line))
            for other in RATES:
                for start in starts(other):
                    self.assertEqual(desk.say(f"list {start}"), mirror.say(f"list {start}"))
            start = starts(rate)[0]
            self.assertEqual(desk.say(f"list {start}"), list_of(part_of(mirror.frames), start, rate))

    def test_no_times(self):
        for line in ("many", "put 0 a + 0 3000"):
            self.desk.say(line)
            self.mirror.say(line)
            for word in (
                "24:00:00:00", "01:60:00:00", "01:00:60:00", "01:00:00:25", "01:00:00;00", "1:00:00:00", "01:00:00",
                "01:00:00:00:00", "x", "0", "from", "list", "-", "\u0660\u0661:00:00:00", "01:00:00:00\t", "many",
                "99:99:99:99",
            ):
                self.say(f"list {word}", TIME)
        desk = Desk(SHELF, "drop")
        self.assertEqual(desk.say("list 00:01:00;00"), TIME)
        self.assertEqual(desk.say("list 00:01:00;01"), TIME)
        self.assertEqual(desk.say("list 00:01:00;02"), "from 00:01:00;02")
        self.assertEqual(desk.say("list 00:10:00;00"), "from 00:10:00;00")
        self.assertEqual(desk.say("list 00:10:00:00"), TIME)

    def test_the_days_end(self):
        self.say_all(
            ("list 23:59:59:24", "from 23:59:59:24"), ("list 00:00:00:00", "from 00:00:00:00"),
            ("put 0 ab = 5 1", "done"),
            ("list 23:59:59:24", LONG),
            ("list 23:59:59:23", "from 23:59:59:23\n0001 ab = 00:00:00:05 00:00:00:05 23:59:59:23 23:59:59:24"),
            ("put 0 ab = 5 1", "done"), ("list 23:59:59:23", LONG), ("list 23:59:59:25", TIME),
        )


class OtherLines(DeskTest):
    RIGHT = ("put 0 ab + 5 3", "lay 1 c - 9 2", "out 1 1", "back 3", "held 0", "list 01:00:00:00", "many")

    def setUp(self):
        super().setUp()
        self.say_all(("put 0 ab + 0 9", "done"), ("put 2 c + 0 3", "done"))

    def test_no_lines(self):
        for line in (
            "", " ", "  ", "\t", "x", "0", "Put 0 ab + 5 3", "PUT 0 ab + 5 3", "pu 0 ab + 5 3", "puts 0 ab + 5 3",
            "put", "lay",
            "out", "back", "held", "list", "Many", "MANY", "manyy", "man", "many 0", "many many", "put 0", "put 0 ab",
            "put 0 ab +", "put 0 ab + 5", "put ab + 5 3", "put 0 ab+5x3", "put 0 ab 5 3", "put 0 + 5 3",
            "put 0 ab + 5 3 0",
            "lay 0 ab + 5", "lay 0 ab + 5 3 3", "lay 0", "out 0", "out 0 1 1", "out 0 ab + 5 3", "back 0 0", "held 0 0",
            "list 01:00:00:00 01:00:00:00", "list 01:00:00:00 0", "over 0 ab + 5 3", "cut 0 1", "now", "done", "free",
            "put\t0 ab + 5 3", "put 0 ab + 5 3\t", "many\t", "put,0,ab,+,5,3", "refused: line", "0 frames, 0 deeds",
            "Back 0", "Held 0", "List 01:00:00:00", "Out 0 1", "Lay 0 ab + 5 3", "put\u00a00 ab + 5 3",
        ):
            self.say(line, LINE)

    def test_blanks(self):
        for line in self.RIGHT:
            words = line.split(" ")
            for changed in (" " + line, line + " ", "  " + line, line + "  ", " " + line + " "):
                self.say(changed, LINE)
            for place in range(1, len(words)):
                self.say(" ".join(words[:place]) + "  " + " ".join(words[place:]), LINE)
        # Nothing in the stead of a word is no word, even where it would stand for black or no time.
        for line in ("put 0  = 0 4", "lay 0  = 0 4", "list ", "back ", "held ", "out 0 ", "out  1", "put 0 - = 0 "):
            self.say(line, LINE)

    def test_no_numbers(self):
        for word in NO_NUMBERS:
            for line in (
                f"put {word} ab + 5 3", f"put 0 ab + {word} 3", f"put 0 ab + 5 {word}", f"put 0 - = {word} 3",
                f"put 0 - = 0 {word}", f"lay {word} ab + 5 3", f"lay 0 ab + {word} 3", f"lay 0 ab + 5 {word}",
                f"out {word} 1", f"out 0 {word}", f"back {word}", f"held {word}",
            ):
                with self.subTest(line[:40]):
                    self.assertEqual(self.mirror.say(line), LINE)
                    self.assertEqual(self.desk.say(line), LINE)
        self.assertEqual(self.desk.say("many"), "12 frames, 2 deeds")

    def test_numbers_of_one_to_five_figures(self):
        self.say_all(
            ("held 2", NUMBER), ("held 10", NUMBER), ("held 100", NUMBER), ("held 1000", NUMBER),
            ("held 10000", NUMBER),
            ("held 99999", NUMBER), ("back 10000", NUMBER), ("put 10000 ab + 5 3", PLACE),
            ("put 99999 ab + 5 3", PLACE),
            ("lay 10000 ab + 5 3", PLACE), ("out 10000 1", PLACE), ("out 0 10000", PLACE), ("out 0 99999", PLACE),
            ("put 0 a = 1000 1", "done"), ("put 0 a = 9999 1000", "done"), ("put 100 a = 10 100", "done"),
            ("put 10 a + 0 10", "done"), ("put 1000 a = 0 1", "done"), ("out 1000 1", "done"), ("held 0", "held by 1"),
        )


class AnyLines(unittest.TestCase):
    def any_line(self, chance, mirror):
        place = chance.choice((0, 1, len(mirror.frames), chance.randrange(len(mirror.frames) + 2)))
        number = chance.randrange(len(mirror.kept) + 2)
        many = chance.choice((0, 1, 1, 2, 3, 5))
        reel = chance.choice(("a", "ab", "c", "-", "zz"))
        sign, first = ("=", 0) if reel == "-" else (chance.choice("+-="), chance.randrange(55))
        piece = f"{reel} {sign} {first} {many}"
        return chance.choice((
            f"put {place} {piece}", f"put {place} {piece}", f"lay {place} {piece}", f"out {place} {many}",
            f"back {number}",
            f"held {number}", "many", f"list {chance.choice(starts(mirror.rate))}", f"put {place}  {piece}",
            f"out {place}",
        ))

    def test_held_against_the_mirror(self):
        chance = random.Random(13)
        met = set()
        for turn in range(80):
            rate = RATES[turn % 4]
            # Two desks at once: neither knows of the other one.
            pairs = [(Desk(SHELF, rate), Mirror(SHELF, rate)) for desk in range(2)]
            for step in range(60):
                desk, mirror = chance.choice(pairs)
                line = self.any_line(chance, mirror)
                want = mirror.say(line)
                self.assertEqual(desk.say(line), want, line)
                met.add(re.sub("[0-9]+", "K", want.split("\n")[0]))
                for desk, mirror in pairs:
                    self.assertEqual(desk.say("many"), f"{len(mirror.frames)} frames, {len(mirror.kept)} deeds")
            for desk, mirror in pairs:
                start = starts(rate)[0]
                self.assertEqual(desk.say(f"list {start}"), list_of(part_of(mirror.frames), start, rate))
        self.assertEqual(met, {
            "done", LINE, REEL, PLACE, LONG, NUMBER, "free", "held by K", "refused: held by K", "K frames, K deeds",
            "from K:K:K:K", "from K:K:K;K",
        })


class Made(unittest.TestCase):
    def test_bad_shelf(self):
        for shelf in NO_SHELVES:
            for rate in (25, "drop", None, 23):
                self.assertEqual(refusal(Desk, shelf, rate), BadShelf)

    def test_bad_rate(self):
        for rate in NO_RATES:
            self.assertEqual(refusal(Desk, SHELF, rate), BadRate)

    def test_each_rate(self):
        for rate in RATES:
            self.assertEqual(Desk(SHELF, rate).say("many"), "0 frames, 0 deeds")
