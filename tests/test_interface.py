"""The interface: the names and arguments of the package, as the document has them."""

import ast
import inspect
import pathlib
import unittest

from cutroom import (
    benches, changes, counts, cuts, deeds, desk, joining, journals, lists, mixes, pulls, rows, rowtexts, stacks, times,
    trims,
)

PACKAGE = pathlib.Path(__file__).resolve().parent.parent / "cutroom"

ARGUMENTS = (
    (rows, (
        ("checked", "row"), ("length", "row"), ("film", "row"), ("least", "row"), ("frame_at", "row place"),
        ("least_of", "frames"), ("same_film", "one other"),
    )),
    (cuts, (
        ("parted", "row place"), ("put_in", "row place more"), ("laid_over", "row place more"),
        ("cut_out", "row place many"), ("taken", "row place many"), ("lifted", "row place many"),
        ("moved", "row place many goal"), ("turned_about", "row"),
    )),
    (trims, (
        ("is_of", "shelf row"), ("head_trimmed", "shelf row number by"), ("tail_trimmed", "shelf row number by"),
        ("slipped", "shelf row number by"), ("rolled", "shelf row number by"), ("slid", "shelf row number by"),
        ("healed", "row number"),
    )),
    (stacks, (("Stack", "rows bonds"), ("drift", "one other"))),
    (stacks.Stack, (
        ("put", "self number place row"), ("lay", "self number place row"), ("cut", "self number place many"),
        ("lift", "self number place many"), ("lane", "self number"), ("ends", "self"), ("side_by_side", "self place"),
        ("bound_with", "self number"),
    )),
    (deeds, (("done", "row deed"), ("contrary", "deed"), ("exchanged", "one other"))),
    (journals, (("Journal", "row"),)),
    (journals.Journal, (
        ("do", "self deed"), ("now", "self"), ("beginning", "self"), ("deeds", "self"), ("held_by", "self number"),
        ("take_back", "self number"),
    )),
    (joining, (("clash", "row ones others"), ("joined", "row ones others"))),
    (times, (
        ("size_of_day", "rate"), ("time_of", "number rate"), ("number_of", "text rate"), ("later", "text by rate"),
        ("until", "one other rate"),
    )),
    (lists, (("list_of", "row start rate"), ("first_fault", "text rate"), ("read_list", "text rate"))),
    (pulls, (
        ("pulls", "shelf rows handle"), ("pulled_shelf", "pulled"), ("pulled_row", "pulled row"),
        ("row_again", "pulled row"),
    )),
    (mixes, (("mixed_film", "shelf row mixes"), ("rooms", "shelf row"))),
    (changes, (("changes", "old new"), ("frames_kept", "old new"))),
    (desk, (("Desk", "shelf rate"),)),
    (desk.Desk, (("say", "self line"),)),
    (counts, (
        ("reels_in", "row"), ("how_many", "row"), ("black_in", "row"), ("seen_often", "row"), ("shared", "one other"),
        ("unseen", "shelf row"),
    )),
    (benches, (("Bench", "row"),)),
    (benches.Bench, (
        ("put", "self place row"), ("cut", "self place many"), ("turn", "self"), ("now", "self"), ("back", "self"),
        ("forth", "self"), ("counts", "self"), ("twin", "self"),
    )),
    (rowtexts, (("row_text", "row"), ("read_row", "text"))),
)


class Interface(unittest.TestCase):
    def test_init_binds_nothing(self):
        self.assertEqual(ast.parse((PACKAGE / "__init__.py").read_text()).body, [])

    def test_names_and_arguments(self):
        for holder, functions in ARGUMENTS:
            for name, arguments in functions:
                with self.subTest(name):
                    found = inspect.signature(getattr(holder, name)).parameters
                    self.assertEqual(list(found), arguments.split())
