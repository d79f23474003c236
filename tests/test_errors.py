"""0.3: the refusals."""

import unittest

from cutroom import errors

REFUSALS = (
    "BadRow", "NoPlace", "BadFilm", "TooLong", "BadShelf", "OffReel", "NoPiece", "BadCount", "TooShort", "NoJoin",
    "BadBonds", "NoLane", "BadDeed", "NotSo", "NoDeed", "Held", "Clash", "BadRate", "BadTime", "BadList", "BadPulls",
    "BadMix", "NoStep",
)


class Refusals(unittest.TestCase):
    def test_cut_error_is_a_value_error(self):
        self.assertEqual(errors.CutError.__bases__, (ValueError,))

    def test_all_stand_right_under_cut_error(self):
        for name in REFUSALS:
            with self.subTest(name):
                self.assertEqual(getattr(errors, name).__bases__, (errors.CutError,))

    def test_each_is_raised_and_taken_by_its_name(self):
        for name in REFUSALS:
            refusal = getattr(errors, name)
            for other in REFUSALS:
                with self.subTest(name, other=other):
                    self.assertEqual(issubclass(refusal, getattr(errors, other)), name == other)
            with self.assertRaises(errors.CutError):
                raise refusal("words")
