"""8.1, 8.2, 0.2 (g), 0.3: times of a day and their numbers."""

import itertools
import unittest

from cutroom.errors import BadCount, BadRate, BadTime
from cutroom.times import later, number_of, size_of_day, time_of, until
from tests.samples import HUGE, NO_WHOLE_NUMBERS, refusal

RATES = (24, 25, 30, "drop")
SIZES = {24: 2073600, 25: 2160000, 30: 2592000, "drop": 2589408}
LAST = {24: "23:59:59:23", 25: "23:59:59:24", 30: "23:59:59:29", "drop": "23:59:59;29"}
FIRST = {24: "00:00:00:00", 25: "00:00:00:00", 30: "00:00:00:00", "drop": "00:00:00;00"}

NO_RATES = (
    None, True, False, 0, 1, -24, 23, 26, 29, 31, 2997, HUGE, "", "24", "25", "30", "Drop", "DROP", "drop ", " drop",
    "dro", "drop\n", [], [24], (24,), ("drop",), ["drop"], (),
)

NO_TIMES = (
    None, True, False, 0, 1, -1, HUGE, "", " ", "00", "000000000", "00000000000", [], (), ["00:00:00:00"],
    ("00:00:00:00",), ("00", "00", "00", "00"), [0, 0, 0, 0],
    "0:00:00:00", "00:0:00:00", "00:00:0:00", "00:00:00:0", "000:00:00:00", "00:000:00:00", "00:00:00:000",
    "00:00:00", "00:00:00:", ":00:00:00:00", "00:00:00:00:", "00:00:00:00:00", "00::00:00:00", "00:00:00 00",
    "00.00.00.00", "00:00:00.00", "00;00;00;00", "00;00:00:00", "00:00;00:00", "00-00-00-00", "00 00 00 00",
    " 0:00:00:00", "00: 0:00:00", "00:00:00: 0", "00:00:00:0 ", " 00:00:00:00", "00:00:00:00 ", "+1:00:00:00",
    "-1:00:00:00", "00:-1:00:00", "00:00:+1:00", "1_:00:00:00", "1_0:00:00:00", "00:00:00:00\n", "\n00:00:00:00",
    "00:00:00\n00", "0\n:00:00:00", "00:00:00:0\n", "0a:00:00:00", "0x:00:00:00", "00:00:00:a0", "aa:aa:aa:aa",
    "24:00:00:00", "25:00:00:00", "99:00:00:00", "00:60:00:00", "00:99:00:00", "00:00:60:00", "00:00:99:00",
    "00:00:00:30", "00:00:00:99",
    # figures of other alphabets
    "\u0660\u0660:00:00:00", "0\u0661:00:00:00", "00:0\u0967:00:00", "00:00:00:0\uff11", "00:00:0\u00b2:00",
    "0\u2460:00:00:00",
)


def ends_of_minute(minute, rate):
    # Seconds and frames of all times of a minute, written out in their order.
    frames = 30 if rate == "drop" else rate
    sign = ";" if rate == "drop" else ":"
    told = []
    for second, frame in itertools.product(range(60), range(frames)):
        if rate == "drop" and minute % 10 != 0 and second == 0 and frame in (0, 1):
            continue
        told.append("%02d%s%02d" % (second, sign, frame))
    return told


def as_drop(text):
    # The same fault, written with the sign that the rate drop has ahead of the frames.
    if not isinstance(text, str) or text.count(":") < 3:
        return text
    place = text.rindex(":")
    return text[:place] + ";" + text[place + 1:]


class Numbers(unittest.TestCase):
    def test_sizes(self):
        for rate in RATES:
            self.assertEqual(size_of_day(rate), SIZES[rate])

    def test_first_and_last(self):
        for rate in RATES:
            self.assertEqual(time_of(0, rate), FIRST[rate])
            self.assertEqual(number_of(FIRST[rate], rate), 0)
            self.assertEqual(time_of(SIZES[rate] - 1, rate), LAST[rate])
            self.assertEqual(number_of(LAST[rate], rate), SIZES[rate] - 1)

    def test_plain_ones(self):
        for rate, text, number in (
            (24, "00:00:01:00", 24), (24, "01:00:00:00", 86400), (25, "01:00:00:00", 90000),
            (30, "01:00:00:00", 108000),
            (25, "00:01:00:00", 1500), (25, "07:05:59:23", 638998), (24, "07:05:59:23", 613439),
            ("drop", "00:00:59;29", 1799), ("drop", "00:01:00;02", 1800), ("drop", "00:01:59;29", 3597),
            ("drop", "00:02:00;02", 3598), ("drop", "00:09:59;29", 17981), ("drop", "00:10:00;00", 17982),
            ("drop", "00:10:00;01", 17983), ("drop", "00:10:59;29", 19781), ("drop", "00:11:00;02", 19782),
            ("drop", "01:00:00;00", 107892), ("drop", "07:05:59;23", 766027),
        ):
            with self.subTest(text, rate=rate):
                self.assertEqual(number_of(text, rate), number)
                self.assertEqual(time_of(number, rate), text)

    def test_each_number_and_back(self):
        # All times of some minutes, and of each other minute of the day the first and last ones.
        for rate in RATES:
            number = 0
            ends = [ends_of_minute(minute, rate) for minute in range(60)]
            for hour, minute in itertools.product(range(24), range(60)):
                size = len(ends[minute])
                whole = (hour == 0 and minute < 22) or (hour, minute) in ((9, 59), (10, 0), (10, 1), (23, 50), (23, 59))
                for place in range(size) if whole else (0, 1, size - 2, size - 1):
                    text = "%02d:%02d:%s" % (hour, minute, ends[minute][place])
                    self.assertEqual(time_of(number + place, rate), text)
                    self.assertEqual(number_of(text, rate), number + place)
                number += size
            self.assertEqual(number, size_of_day(rate))

    def test_times_left_out(self):
        for hour, minute in itertools.product((0, 1, 13, 23), range(60)):
            for frame in range(4):
                text = "%02d:%02d:00;%02d" % (hour, minute, frame)
                want = BadTime if minute % 10 != 0 and frame < 2 else None
                self.assertEqual(refusal(number_of, text, "drop"), want)
                self.assertIsNone(refusal(number_of, text.replace("00;", "01;"), "drop"))
                self.assertIsNone(refusal(number_of, text.replace(";", ":"), 30))
                self.assertEqual(refusal(later, text, 0, "drop"), want)
                self.assertEqual(refusal(until, text, FIRST["drop"], "drop"), want)
                self.assertEqual(refusal(until, FIRST["drop"], text, "drop"), want)

    def test_in_order(self):
        for rate in RATES:
            times = [time_of(number, rate) for number in range(0, SIZES[rate], 997)]
            self.assertEqual(times, sorted(times))
            self.assertEqual([number_of(text, rate) for text in times], list(range(0, SIZES[rate], 997)))


class WrongOnes(unittest.TestCase):
    def test_bad_rate_first(self):
        for rate in NO_RATES:
            self.assertEqual(refusal(size_of_day, rate), BadRate)
            for thing in (0, None, "00:00:00:00", -1):
                self.assertEqual(refusal(time_of, thing, rate), BadRate)
                self.assertEqual(refusal(number_of, thing, rate), BadRate)
                self.assertEqual(refusal(later, thing, None, rate), BadRate)
                self.assertEqual(refusal(until, thing, None, rate), BadRate)
                self.assertEqual(refusal(until, None, thing, rate), BadRate)

    def test_no_number(self):
        for rate in RATES:
            for number in NO_WHOLE_NUMBERS + (-1, SIZES[rate], SIZES[rate] + 1, HUGE, -HUGE):
                self.assertEqual(refusal(time_of, number, rate), BadCount)

    def test_no_times(self):
        for rate, written in itertools.product(RATES, NO_TIMES):
            text = as_drop(written) if rate == "drop" else written
            for by in (0, None, 1000000001):
                self.assertEqual(refusal(later, text, by, rate), BadTime)
            self.assertEqual(refusal(number_of, text, rate), BadTime)
            self.assertEqual(refusal(until, text, FIRST[rate], rate), BadTime)
            self.assertEqual(refusal(until, FIRST[rate], text, rate), BadTime)
            self.assertEqual(refusal(until, text, text, rate), BadTime)

    def test_times_of_other_rates(self):
        for rate, other in itertools.product((24, 25, 30), repeat=2):
            want = BadTime if other > rate else None
            self.assertEqual(refusal(number_of, LAST[other], rate), want)
        for rate in (24, 25, 30):
            self.assertEqual(refusal(number_of, FIRST[rate], "drop"), BadTime)
            self.assertEqual(refusal(number_of, FIRST["drop"], rate), BadTime)

    def test_last_part_that_is_one(self):
        for rate, frames in ((24, 24), (25, 25), (30, 30), ("drop", 30)):
            sign = ";" if rate == "drop" else ":"
            for hour, minute, second, frame in itertools.product((23, 24), (59, 60), (59, 60), (frames - 1, frames)):
                text = "%02d:%02d:%02d%s%02d" % (hour, minute, second, sign, frame)
                want = None if (hour, minute, second, frame) == (23, 59, 59, frames - 1) else BadTime
                self.assertEqual(refusal(number_of, text, rate), want)


class LaterAndUntil(unittest.TestCase):
    def test_round_the_days_end(self):
        for rate in RATES:
            self.assertEqual(later(LAST[rate], 1, rate), FIRST[rate])
            self.assertEqual(later(FIRST[rate], -1, rate), LAST[rate])
            self.assertEqual(later(FIRST[rate], 0, rate), FIRST[rate])
            self.assertEqual(later(FIRST[rate], SIZES[rate], rate), FIRST[rate])
            self.assertEqual(later(LAST[rate], -SIZES[rate], rate), LAST[rate])
            self.assertEqual(later(LAST[rate], 3 * SIZES[rate] + 1, rate), FIRST[rate])
            self.assertEqual(until(LAST[rate], FIRST[rate], rate), 1)
            self.assertEqual(until(FIRST[rate], LAST[rate], rate), SIZES[rate] - 1)
            self.assertEqual(until(FIRST[rate], FIRST[rate], rate), 0)
            self.assertEqual(until(LAST[rate], LAST[rate], rate), 0)

    def test_plain_ones(self):
        self.assertEqual(later("01:00:00:00", 26, 25), "01:00:01:01")
        self.assertEqual(later("01:00:00:00", -26, 25), "00:59:58:24")
        self.assertEqual(later("00:00:59;29", 1, "drop"), "00:01:00;02")
        self.assertEqual(later("00:01:00;02", -1, "drop"), "00:00:59;29")
        self.assertEqual(later("00:09:59;29", 1, "drop"), "00:10:00;00")
        self.assertEqual(until("00:00:59;29", "00:01:00;02", "drop"), 1)
        self.assertEqual(until("00:59:58:24", "01:00:00:00", 25), 26)
        self.assertEqual(until("01:00:00:00", "00:59:58:24", 25), SIZES[25] - 26)

    def test_each_leads_to_the_other(self):
        for rate in RATES:
            numbers = (0, 1, 2, 1799, 1800, 17981, 17982, 100000, SIZES[rate] // 2, SIZES[rate] - 2, SIZES[rate] - 1)
            for one, other in itertools.product(numbers, repeat=2):
                many = until(time_of(one, rate), time_of(other, rate), rate)
                self.assertEqual(many, other - one if other >= one else other - one + SIZES[rate])
                self.assertEqual(later(time_of(one, rate), many, rate), time_of(other, rate))
                self.assertEqual(later(time_of(other, rate), -many, rate), time_of(one, rate))
                self.assertEqual(later(time_of(one, rate), other - one, rate), time_of(other, rate))

    def test_far_ones(self):
        for rate in RATES:
            for by in (1000000000, -1000000000, 999999999):
                self.assertEqual(number_of(later(FIRST[rate], by, rate), rate), by % SIZES[rate])
            for by in NO_WHOLE_NUMBERS + (1000000001, -1000000001, HUGE, -HUGE):
                self.assertEqual(refusal(later, FIRST[rate], by, rate), BadCount)
