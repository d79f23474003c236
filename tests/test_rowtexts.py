"""16.1, 0.2 (j), 0.3: rows in one line."""

import itertools
import random
import re
import unittest

from cutroom.errors import BadList, BadRow
from cutroom.rows import checked
from cutroom.rowtexts import read_row, row_text
from tests.samples import FULL_ROWS, GOOD_PIECES, HUGE, NO_ROWS, ROWS, any_row, refusal

SHELF = (("a", 10000), ("x", 40), ("ab", 1), ("xx", 9), ("abcdef", 10000), ("xyz", 3000))
WORD = re.compile(r"(-|[a-z]{1,6})([-+=])(0|[1-9][0-9]*)x([1-9][0-9]*)")
STEPS = {"+": 1, "-": -1, "=": 0}

NO_TEXTS = (
    None, True, False, 0, 1, HUGE, [], (), ["ab+5x3"], ("ab+5x3",), [""], ("ab", 5, 1, 3), (("ab", 5, 1, 3),), (None,),
)
# Each of these is no word; the right ones beside it differ from it by a sign or two.
NO_WORDS = (
    "ab", "ab+", "ab+5", "ab+5x", "+5x3", "ab5x3", "ab+x3", "ab+5x3x", "ab+5x3x3", "ab+53", "abx+5x3+", "x3", "5x3",
    "-", "ab++5x3", "ab+-5x3", "ab+5x+3", "ab+5x-3", "ab-+5x3", "ab=+5x3", "ab+5xx3", "ab+5X3", "ab*5x3", "ab/5x3",
    "ab:5x3",
    # names
    "abcdefg+5x3", "Ab+5x3", "AB+5x3", "a1+5x3", "a-b+5x3", "\u00e4b+5x3", "a\u0430+5x3", "a_b+5x3", "-ab+5x3",
    "ab--+5x3",
    # numbers
    "ab+05x3", "ab+00x3", "ab=00x3", "ab+5x03", "ab+5x003", "ab+5x0", "ab+5x00", "ab=5x0", "ab+-1x3", "ab+5x-3",
    "ab+10000x1", "ab=10000x1", "ab+9999x2", "ab+9998x3", "ab-0x2", "ab-1x3", "ab=5x3001", "ab+5x3001", "ab-9999x3001",
    "ab=5x10000", "ab=99999x1", "ab=100000x1", "ab=5x100000", "ab+5.0x3", "ab+5,0x3", "ab+1_0x3", "ab+0x5x3",
    "ab+1e1x3",
    "ab+\u0665x3", "ab+5x\u0663", "ab+\uff15x3", "ab+5x\uff13", "ab+\u00b2x3", "ab+5x\u00b3", "ab+\u2460x3",
    # nearly black
    "-+0x4", "--0x4", "-=1x4", "-=0x0", "-=0x3001", "-=00x4", "-=0x04", "=0x4", "-0x4", "-=x4", "-=0", "-=0x", "--=0x4",
    "-+0x1", "--0x1", "\u2212=0x4", "_=0x4", ".=0x4",
)
# Signs that could stand in a text, and others that look much like them.
SIGNS = "abxz09153+-= \n\tXA_.,\u0663\u00e4\u00a0\u2212"


def written(row):
    signs = {1: "+", -1: "-", 0: "="}
    return " ".join(f"{name or '-'}{signs[step]}{first}x{many}" for name, first, step, many in row)


def reckoned(text):
    # The row of which a text is the writing, or None.
    pieces = []
    for word in text.split(" ") if text else []:
        found = WORD.fullmatch(word)
        if not found:
            return None
        name, sign, first, many = found.groups()
        pieces.append(("" if name == "-" else name, int(first), STEPS[sign], int(many)))
    return None if refusal(checked, tuple(pieces)) else tuple(pieces)


class RowTexts(unittest.TestCase):
    def test_the_documents_examples(self):
        for row, text in (
            ((("ab", 5, 1, 3),), "ab+5x3"),
            ((("", 0, 0, 4),), "-=0x4"),
            ((("ab", 5, 1, 3), ("", 0, 0, 4)), "ab+5x3 -=0x4"),
            ((("", 0, 0, 4), ("", 0, 0, 4)), "-=0x4 -=0x4"),
            ((), ""),
        ):
            self.assertEqual(row_text(row), text)
            self.assertEqual(read_row(text), row)

    def test_plain_ones(self):
        for row, text in (
            ((("a", 0, -1, 1), ("a", 0, 0, 1), ("a", 0, 1, 1)), "a-0x1 a=0x1 a+0x1"),
            ((("abcdef", 9999, -1, 3000),), "abcdef-9999x3000"),
            ((("abcdef", 7000, 1, 3000),), "abcdef+7000x3000"),
            ((("abcdef", 9999, 0, 3000),), "abcdef=9999x3000"),
            ((("", 0, 0, 3000),), "-=0x3000"),
            ((("x", 10, 1, 10), ("xx", 100, -1, 100), ("xxxxxx", 1000, 0, 9)), "x+10x10 xx-100x100 xxxxxx=1000x9"),
        ):
            self.assertEqual(row_text(row), text)
            self.assertEqual(read_row(text), row)

    def test_pieces_are_not_joined(self):
        row = (("ab", 5, 1, 3), ("ab", 8, 1, 1), ("ab", 9, -1, 1))
        self.assertEqual(row_text(row), "ab+5x3 ab+8x1 ab-9x1")
        self.assertEqual(read_row("ab+5x3 ab+8x1 ab-9x1"), row)

    def test_each_row_reads_back(self):
        chance = random.Random(16)
        rows = [any_row(chance, SHELF, chance.randrange(30), 100) for turn in range(300)]
        for row in rows + [(piece,) for piece in GOOD_PIECES] + list(ROWS + FULL_ROWS):
            text = row_text(row)
            self.assertEqual(text, written(row))
            self.assertEqual(read_row(text), row)
            self.assertIs(type(text), str)

    def test_each_step_and_number(self):
        for first, step, many in itertools.product(range(12), (1, -1, 0), range(1, 12)):
            piece = ("ab", first, step, many)
            self.assertEqual(refusal(read_row, written((piece,))), BadList if refusal(checked, (piece,)) else None)
            if not refusal(checked, (piece,)):
                self.assertEqual(read_row(row_text((piece,))), (piece,))

    def test_bad_row(self):
        for row in NO_ROWS:
            self.assertEqual(refusal(row_text, row), BadRow)


class NoWritings(unittest.TestCase):
    def test_no_texts(self):
        for text in NO_TEXTS:
            self.assertEqual(refusal(read_row, text), BadList)

    def test_no_words(self):
        for word in NO_WORDS:
            for text in (word, "ab+5x3 " + word, word + " ab+5x3", "-=0x4 " + word + " c-9x4"):
                with self.subTest(text):
                    self.assertIsNone(reckoned(text))
                    self.assertEqual(refusal(read_row, text), BadList)

    def test_blanks_and_line_ends(self):
        for text in (
            " ", "  ", "\n", "\t", " ab+5x3", "ab+5x3 ", "ab+5x3  -=0x4", "  ab+5x3", "ab+5x3\n", "\nab+5x3",
            "ab+5x3\n-=0x4", "ab+5x3\t-=0x4", "ab+5x3 \n-=0x4", "ab+5x3\r\n", "ab +5x3", "ab+ 5x3", "ab+5 x3",
            "ab+5x 3",
            "- =0x4", "ab+5x3-=0x4", "ab+5x3,-=0x4", "ab+5x3\u00a0-=0x4", "ab+5x3 -=0x4 ", " ab+5x3 -=0x4",
            "ab+5x3\x0b-=0x4",
        ):
            with self.subTest(text):
                self.assertEqual(refusal(read_row, text), BadList)

    def test_more_than_3000_frames(self):
        for text in ("a=0x3000 a=0x1", "-=0x1500 a+0x1501", "a=0x3000 b=0x3000", " ".join(["a=0x1"] * 3001)):
            self.assertEqual(refusal(read_row, text), BadList)
        self.assertEqual(read_row(" ".join(["a=0x1"] * 3000)), (("a", 0, 0, 1),) * 3000)

    def test_numbers_of_very_many_figures(self):
        for many in (6, 20, 5000):
            self.assertEqual(refusal(read_row, "ab=" + "1" * many + "x1"), BadList)
            self.assertEqual(refusal(read_row, "ab=1x" + "1" * many), BadList)
            self.assertEqual(refusal(read_row, "ab=1x" + "0" * many + "1"), BadList)

    def check_text(self, text):
        want = reckoned(text)
        if want is None:
            self.assertEqual(refusal(read_row, text), BadList, text)
        else:
            self.assertEqual(read_row(text), want)
            self.assertEqual(row_text(want), text)

    def test_a_sign_put_in_left_out_or_another_one(self):
        read = 0
        for text in ("", "ab+5x3", "-=0x4", "x-19x20", "ab+5x3 -=0x4 c=0x1"):
            for place in range(len(text) + 1):
                texts = [text[:place] + text[place + 1:]]
                texts.extend(text[:place] + sign + text[place:] for sign in SIGNS)
                texts.extend(text[:place] + sign + text[place + 1:] for sign in SIGNS)
                for changed in texts:
                    self.check_text(changed)
                    read += reckoned(changed) is not None
        self.assertGreater(read, 100)

    def test_texts_of_any_signs(self):
        chance = random.Random(17)
        for turn in range(20000):
            self.check_text("".join(chance.choice("ax+-=05 ") for sign in range(chance.randrange(12))))
