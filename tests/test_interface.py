"""The interface: the names and arguments of the package, as the document has them."""

import ast
import inspect
import pathlib
import unittest

from cutroom import cuts, rows

PACKAGE = pathlib.Path(__file__).resolve().parent.parent / "cutroom"

ARGUMENTS = (
    (rows, (
        ("checked", "row"), ("length", "row"), ("film", "row"), ("least", "row"), ("frame_at", "row place"),
        ("least_of", "frames"), ("same_film", "one other"),
    )),
    (cuts, (
        ("parted", "row place"), ("put_in", "row place more"), ("laid_over", "row place more"),
        ("cut_out", "row place many"), ("taken", "row place many"), ("lifted", "row place many"),
        ("moved", "row place many goal"), ("turned_about", "row"),
    )),
)


class Interface(unittest.TestCase):
    def test_init_binds_nothing(self):
        self.assertEqual(ast.parse((PACKAGE / "__init__.py").read_text()).body, [])

    def test_names_and_arguments(self):
        for module, functions in ARGUMENTS:
            for name, arguments in functions:
                with self.subTest(name):
                    found = inspect.signature(getattr(module, name)).parameters
                    self.assertEqual(list(found), arguments.split())
