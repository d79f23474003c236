"""9.1, 9.2, 0.2 (g), 0.3: rows written as cutters' lists, and lists read."""

import functools
import itertools
import re
import unittest

from cutroom.errors import BadList, BadRate, BadRow, BadTime, TooLong
from cutroom.lists import first_fault, list_of, read_list
from cutroom.times import size_of_day, time_of
from tests.samples import FULL_ROWS, GOOD_PIECES, HUGE, NO_ROWS, ROWS, refusal, shown

RATES = (24, 25, 30, "drop")
NO_RATES = (None, True, False, 0, 23, HUGE, "", "24", "DROP", [], [24], (24,), ("drop",))
ROW = (("ab", 5, 1, 3), ("", 0, 0, 22))
TEXT = """from 01:00:00:00
0001 ab + 00:00:00:05 00:00:00:07 01:00:00:00 01:00:00:03
0002 - = 00:00:00:00 00:00:00:00 01:00:00:03 01:00:01:00"""
MIXED = (("ab", 5, 1, 3), ("c", 1800, -1, 4), ("ab", 7, 1, 1), ("ab", 7, -1, 1), ("zzzzzz", 9999, 0, 2), ("", 0, 0, 30))

MINUTES = list(itertools.product(range(24), range(60)))
TIME = r"(\d\d:\d\d:\d\d[:;]\d\d)"
LINE = re.compile(r"(\d{4}) (-|[a-z]{1,6}) ([-+=]) " + " ".join([TIME] * 4), re.ASCII)


@functools.cache
def own_number(text, rate):
    # Reckons a time's number by the minutes ahead of it, one by one; None of what is no time.
    hour, minute, second, frame = [int(part) for part in re.split("[:;]", text)]
    frames = 30 if rate == "drop" else rate
    if (hour, minute) not in MINUTES or second > 59 or frame >= frames or (";" in text) != (rate == "drop"):
        return None
    out = [2 if rate == "drop" and some % 10 else 0 for hours, some in MINUTES[:60 * hour + minute + 1]]
    if second == 0 and frame < out[-1]:
        return None
    return (3600 * hour + 60 * minute + second) * frames + frame - sum(out)


def end_of_line(line, number, begin, most, rate):
    # The number of the time at which the line's piece ends, or None, if it has a fault.
    words = LINE.fullmatch(line)
    if not words or words[1] != "%04d" % number:
        return None
    first, last, begins, ends = [own_number(text, rate) for text in words.groups()[3:]]
    if None in (first, last, begins, ends) or begins != begin or not begin < ends <= most:
        return None
    step = {"+": 1, "-": -1, "=": 0}[words[3]]
    if last != first + step * (ends - begin - 1) or max(first, last) > 9999:
        return None
    if words[2] == "-" and (first, step) != (0, 0):
        return None
    return ends


def own_fault(text, rate):
    lines = text.split("\n")
    start = re.fullmatch("from " + TIME, lines[0], re.ASCII)
    begin = own_number(start[1], rate) if start else None
    if begin is None:
        return 0
    most = begin + 3000
    for number, line in enumerate(lines[1:], start=1):
        begin = end_of_line(line, number, begin, most, rate)
        if begin is None:
            return number
    return None


class Written(unittest.TestCase):
    def test_the_documents_example(self):
        self.assertEqual(list_of(ROW, "01:00:00:00", 25), TEXT)
        self.assertEqual(read_list(TEXT, 25), ("01:00:00:00", ROW))
        self.assertIsNone(first_fault(TEXT, 25))

    def test_plain_ones(self):
        self.assertEqual(list_of((), "07:05:59:23", 24), "from 07:05:59:23")
        self.assertEqual(list_of(MIXED, "00:00:59;28", "drop").split("\n"), [
            "from 00:00:59;28",
            "0001 ab + 00:00:00;05 00:00:00;07 00:00:59;28 00:01:00;03",
            "0002 c - 00:01:00;02 00:00:59;27 00:01:00;03 00:01:00;07",
            "0003 ab + 00:00:00;07 00:00:00;07 00:01:00;07 00:01:00;08",
            "0004 ab - 00:00:00;07 00:00:00;07 00:01:00;08 00:01:00;09",
            "0005 zzzzzz = 00:05:33;19 00:05:33;19 00:01:00;09 00:01:00;11",
            "0006 - = 00:00:00;00 00:00:00;00 00:01:00;11 00:01:01;11",
        ])
        self.assertEqual(list_of((("a", 9999, -1, 2),), "10:00:00:00", 30).split("\n")[1],
                         "0001 a - 00:05:33:09 00:05:33:08 10:00:00:00 10:00:00:02")

    def test_pieces_stay_as_they_are(self):
        row = (("a", 5, 1, 2), ("a", 7, 1, 2), ("", 0, 0, 1), ("", 0, 0, 1))
        self.assertEqual(list_of(row, "00:00:00:00", 24).count("\n"), 4)
        self.assertEqual(read_list(list_of(row, "00:00:00:00", 24), 24)[1], row)

    def test_many_rows_at_each_rate_read_back(self):
        rows = ROWS + FULL_ROWS[:3] + (MIXED, ROW) + tuple((piece,) for piece in GOOD_PIECES)
        for rate, row in itertools.product(RATES, rows):
            size = size_of_day(rate)
            many = len(shown(row))
            for start in (0, 1, 1799, 17980, size // 2, size - many - 2, size - many - 1):
                text = list_of(row, time_of(start, rate), rate)
                self.assertIsNone(first_fault(text, rate))
                self.assertEqual(read_list(text, rate), (time_of(start, rate), row))
                self.assertEqual(text.count("\n"), len(row))

    def test_a_list_for_each_row(self):
        pieces = [("", 0, 0, 1), ("", 0, 0, 2), ("b", 3, 0, 1)]
        for first, step, many in itertools.product((2, 3), (1, -1, 0), (1, 2)):
            pieces.append(("a", first, step, many))
        rows = [row for many in range(3) for row in itertools.product(pieces, repeat=many)]
        texts = {list_of(row, "00:00:00:00", 25) for row in rows}
        self.assertEqual(len(texts), len(rows))

    def test_the_days_end(self):
        for rate in RATES:
            size = size_of_day(rate)
            last = time_of(size - 1, rate)
            self.assertEqual(list_of((), last, rate), "from " + last)
            for many in (1, 2, 25, 3000):
                row = (("a", 5, 0, many),)
                text = list_of(row, time_of(size - many - 1, rate), rate)
                self.assertTrue(text.endswith(last))
                self.assertEqual(read_list(text, rate)[1], row)
                for start in (size - many, size - 1):
                    self.assertEqual(refusal(list_of, row, time_of(start, rate), rate), TooLong)

    def test_refusals_in_order(self):
        for row in NO_ROWS:
            for start, rate in (("00:00:00:00", 24), (None, 24), ("00:00:00:00", None), (None, None)):
                self.assertEqual(refusal(list_of, row, start, rate), BadRow)
        for rate in NO_RATES:
            for start in ("00:00:00:00", None, "", "24:00:00:00"):
                self.assertEqual(refusal(list_of, ROW, start, rate), BadRate)
        for row, start in itertools.product(ROWS + FULL_ROWS, (
            None, True, 0, 1, HUGE, "", "0:00:00:00", "24:00:00:00", "23:59:59:24", "00:00:00;00", "00:00:00:00\n",
            [], (),
        )):
            self.assertEqual(refusal(list_of, row, start, 24), BadTime)
        self.assertEqual(refusal(list_of, ROW, "00:01:00;00", "drop"), BadTime)
        self.assertEqual(refusal(list_of, FULL_ROWS[0], "23:59:59:23", 24), TooLong)


class Read(unittest.TestCase):
    def check_text(self, text, rate):
        want = own_fault(text, rate)
        self.assertEqual(first_fault(text, rate), want, (text, rate))
        if want is None:
            start, row = read_list(text, rate)
            self.assertEqual(list_of(row, start, rate), text)
        else:
            self.assertEqual(refusal(read_list, text, rate), BadList)
        return want

    def test_one_sign_changed(self):
        signs = " 019:;-+=aA\n\r\u0660"
        for rate in (25, "drop"):
            met = set()
            text = list_of(MIXED, time_of(1790, rate), rate)
            for place in range(len(text) + 1):
                met.add(self.check_text(text[:place] + text[place + 1:], rate))
                for sign in signs:
                    met.add(self.check_text(text[:place] + sign + text[place:], rate))
                    met.add(self.check_text(text[:place] + sign + text[place + 1:], rate))
            self.assertTrue({None, 0, 1, 2, 3, 4, 5, 6, 7}.issuperset(met) and len(met) > 7, met)

    def test_one_word_changed(self):
        for rate in RATES:
            text = list_of(MIXED, time_of(5, rate), rate)
            lines = text.split("\n")
            words = sorted(set(text.replace("\n", " ").split(" ")) | {"", "-", "abcdefg", "0000", "00001", "from"})
            words += [time_of(number, rate) for number in (3, 9999, 10000, 3005, 3006, size_of_day(rate) - 1)]
            for number, line in enumerate(lines):
                parts = line.split(" ")
                for at, word in itertools.product(range(len(parts)), words):
                    changed = " ".join(parts[:at] + [word] + parts[at + 1:])
                    self.check_text("\n".join(lines[:number] + [changed] + lines[number + 1:]), rate)

    def test_one_line_changed(self):
        lines = list_of(MIXED, "01:00:00:00", 25).split("\n")
        others = list_of(MIXED[::-1], "01:00:00:00", 25).split("\n") + ["", " ", "from", "from ", "0001", "x" * 5000]
        for at, other in itertools.product(range(len(lines) + 1), others + lines):
            self.check_text("\n".join(lines[:at] + [other] + lines[at:]), 25)
            self.check_text("\n".join(lines[:at] + [other] + lines[at + 1:]), 25)
        for many in range(1, len(lines) + 1):
            self.assertIsNone(self.check_text("\n".join(lines[:many]), 25))
            self.check_text("\n".join(lines[many:]), 25)

    def test_the_first_of_several_faults(self):
        lines = list_of(MIXED, "01:00:00:00", 25).split("\n")
        for one, other in itertools.combinations(range(len(lines)), 2):
            wrong = list(lines)
            wrong[one] = wrong[one].upper() + "!"
            wrong[other] = ""
            self.assertEqual(self.check_text("\n".join(wrong), 25), one)
            wrong[one] = lines[one]
            self.assertEqual(self.check_text("\n".join(wrong), 25), other)

    def test_plain_faults(self):
        for text, want in (
            ("", 0), ("\n", 0), (" ", 0), ("from", 0), ("from ", 0), ("from  01:00:00:00", 0), ("From 01:00:00:00", 0),
            (" from 01:00:00:00", 0), ("from 01:00:00:00 ", 0), ("from\t01:00:00:00", 0), ("from 1:00:00:00", 0),
            ("from 01:00:00;00", 0), ("from 01:00:00:25", 0), ("from 24:00:00:00", 0), ("01:00:00:00", 0),
            ("from 01:00:00:00", None), ("from 01:00:00:00\n", 1), ("from 01:00:00:00\n\n", 1),
            ("from 01:00:00:00\r", 0), ("from 01:00:00:00\r\n", 0),
            ("\nfrom 01:00:00:00", 0), ("from 01:00:00:00\nfrom 01:00:00:00", 1),
            (TEXT, None), (TEXT + "\n", 3), (TEXT + "\n\n", 3), (TEXT + " ", 2), (TEXT + "\r", 2), ("\n" + TEXT, 0),
            (TEXT.replace("\n", "\r\n"), 0), (TEXT.replace("\n", "\r"), 0), (TEXT.replace("\n", "\n\n"), 1),
            (TEXT.replace("0001", "0000"), 1), (TEXT.replace("0001", "1"), 1), (TEXT.replace("0002", "0003"), 2),
            (TEXT.replace("0002", "002"), 2), (TEXT.replace("ab", "abcdefg"), 1), (TEXT.replace("ab", "AB"), 1),
            (TEXT.replace("ab", "-"), 1), (TEXT.replace("ab", "a-"), 1), (TEXT.replace("ab", ""), 1),
            (TEXT.replace("ab", "abcdef"), None), (TEXT.replace("+", "-"), 1), (TEXT.replace("+", "="), 1),
            (TEXT.replace("- =", "- +"), 2), (TEXT.replace("- =", "a ="), None), (TEXT.replace("- =", "a +"), 2),
            (TEXT.replace("- =", " ="), 2), (TEXT.replace("00:00:07", "00:00:08"), 1),
            (TEXT.replace("01:00:00:03", "01:00:00:04"), 1), (TEXT.replace("00:03 01", "00:04 01"), 2),
            (TEXT.replace("01:00:01:00", "01:00:01:01"), None), (TEXT.replace("01:00:01:00", "01:00:00:03"), 2),
            (TEXT.replace("01:00:01:00", "01:00:00:02"), 2), (TEXT.replace("01:00:01:00", "01:02:00:00"), None),
            (TEXT.replace("01:00:01:00", "01:02:00:01"), 2), (TEXT.replace("01:00:01:00", "00:00:00:00"), 2),
            (TEXT.replace("from 01:00:00:00", "from 01:00:00:01"), 1),
        ):
            with self.subTest(text):
                self.assertEqual(self.check_text(text, 25), want)

    def test_other_line_ends_within_a_line(self):
        for sign in "\r\v\f\x1c\x1d\x1e\x85\u2028\u2029\0":
            self.assertEqual(first_fault(TEXT.replace("\n", sign), 25), 0)
            for place in (4, 16, 30, len(TEXT)):
                text = TEXT[:place] + sign + TEXT[place:]
                self.assertEqual(self.check_text(text, 25), TEXT[:place].count("\n"))

    def test_reels_ends(self):
        for first, last, sign, want in (
            (9998, 9999, "+", None), (9999, 10000, "+", 1), (10000, 9999, "-", 1), (9999, 9998, "-", None),
            (0, 1, "+", None), (1, 0, "-", None), (9999, 9999, "=", None), (10000, 10000, "=", 1), (5, 6, "=", 1),
        ):
            for rate in RATES:
                times = [time_of(number, rate) for number in (first, last, 50, 52)]
                text = "from " + times[2] + "\n0001 a " + sign + " " + " ".join(times)
                self.assertEqual(self.check_text(text, rate), want)

    def test_3000_frames_and_more(self):
        for rate in RATES:
            for many, want in ((2999, None), (3000, None), (3001, 1), (9000, 1)):
                times = [time_of(number, rate) for number in (7, 7, 50, 50 + many)]
                self.assertEqual(self.check_text("from " + times[2] + "\n0001 a = " + " ".join(times), rate), want)
        text = list_of((("a", 0, 0, 2999),), "00:00:00:00", 25)
        line = "\n0002 b = 00:00:00:00 00:00:00:00 00:01:59:24 "
        self.assertIsNone(self.check_text(text + line + "00:02:00:00", 25))
        self.assertEqual(self.check_text(text + line + "00:02:00:01", 25), 2)

    def test_3000_pieces_and_more(self):
        text = list_of(FULL_ROWS[3], "00:00:00:00", 25)
        self.assertIsNone(first_fault(text, 25))
        self.assertEqual(read_list(text, 25), ("00:00:00:00", FULL_ROWS[3]))
        line = "\n3001 a = 00:00:00:00 00:00:00:00 00:02:00:00 00:02:00:01"
        self.assertEqual(first_fault(text + line, 25), 3001)
        self.assertEqual(refusal(read_list, text + line, 25), BadList)

    def test_beyond_the_days_end(self):
        for rate in RATES:
            size = size_of_day(rate)
            times = [time_of(number % size, rate) for number in (7, 7, size - 2, size - 1, size, size + 1)]
            start = "from " + times[2] + "\n"
            first = "0001 a = " + " ".join(times[:4])
            self.assertIsNone(self.check_text(start + first, rate))
            for line in (" ".join(times[:3] + times[4:5]), " ".join(times[:3] + times[5:])):
                self.assertEqual(self.check_text(start + "0001 a = " + line, rate), 1)
            self.assertEqual(self.check_text(start + first + "\n0002 a = " + " ".join(times[:2] + times[3:5]), rate), 2)
            # A piece with its number from the day's beginning on, behind one that has ended there.
            self.assertEqual(self.check_text(start + first + "\n0002 a = " + " ".join(times[:2] + times[4:]), rate), 2)

    def test_lists_of_other_rates(self):
        for rate, other in itertools.product(RATES, repeat=2):
            text = list_of(MIXED, time_of(100000, rate), rate)
            self.check_text(text, other)
        self.assertEqual(first_fault(list_of(MIXED, "01:00:00:00", 25), "drop"), 0)

    def test_refusals_in_order(self):
        for rate in NO_RATES:
            for text in (TEXT, "", None, 5):
                self.assertEqual(refusal(first_fault, text, rate), BadRate)
                self.assertEqual(refusal(read_list, text, rate), BadRate)
        for text in (None, True, False, 0, 1, HUGE, [], (), [TEXT], (TEXT,), TEXT.split("\n"), ROW):
            self.assertEqual(refusal(first_fault, text, 25), BadList)
            self.assertEqual(refusal(read_list, text, 25), BadList)
