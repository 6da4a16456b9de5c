import unittest

from splitscar.deeds import is_deed

from tests.helpers import BIG, ODD_VALUES
from tests.variants import plain_deed, variants

DEEDS = [
    ("put", 1, "a"), ("put", BIG - 1, ""), ("put", 1 - BIG, "x" * 40), ("put", 0, " ~!=&'\\\"/"), ("strike", 0),
    ("strike", -5), ("strike range", 1, 9), ("strike range", 9, 1), ("strike range", 1 - BIG, BIG - 1), ("rebuild",),
]

NO_DEEDS = ODD_VALUES + [
    ("put", True, "a"), ("put", 1.5, "a"), ("put", BIG, "a"), ("put", -BIG, "a"), ("put", None, "a"), ("put", "1", "a"),
    ("put", 1, None), ("put", 1, 1), ("put", 1, True), ("put", 1, "x" * 41), ("put", 1, "a%"), ("put", 1, "%"),
    ("put", 1, "a\nb"), ("put", 1, "\n"), ("put", 1, ("a",)), ("put", 1), ("put",), ("put", 1, "a", None),
    ["put", 1, "a"], ("put", [1], "a"), (("put",), 1, "a"), ("strike",), ("strike", BIG), ("strike", False),
    ("strike", None), ("strike", "1"), ("strike", 1, 1), ["strike", 1], ("strike range", 1), ("strike range", 1, 2, 3),
    ("strike range", BIG, 1), ("strike range", 1, BIG), ("strike range", True, 2), ("strike range", 1, None),
    ["strike range", 1, 2], ("strike  range", 1, 2), ("rebuild", 1), ("rebuild", None), ["rebuild"], "rebuild",
    ("Rebuild",), ("get", 1), ("scan", 1, 2), ("",), ((),), ([],), ({},), (None, 1), (1, 2), ("free",),
]


class Deeds(unittest.TestCase):
    def test_deeds(self):
        for deed in DEEDS:
            self.assertIs(is_deed(deed), True, deed)
        self.assertIs(is_deed(value=("rebuild",)), True)

    def test_no_deeds(self):
        for value in NO_DEEDS:
            self.assertIs(is_deed(value), False, value)

    def test_one_thing_changed(self):
        for deed in DEEDS:
            for value in variants(deed):
                self.assertIs(is_deed(value), plain_deed(value), value)

    def test_lengths_and_characters(self):
        for length in range(60):
            self.assertIs(is_deed(("put", 1, "y" * length)), length <= 40)
        for code in range(300):
            self.assertIs(is_deed(("put", 1, chr(code))), 32 <= code <= 126 and code != 37)


if __name__ == "__main__":
    unittest.main()
