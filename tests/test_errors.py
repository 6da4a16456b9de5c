import unittest

from splitscar import errors

TABLE = {
    "ScarError": (
        "InvalidRule() InvalidKey(value) InvalidTree() InvalidEvent(index) InvalidValue(value) InvalidDeed(deed) "
        "InvalidMost(value) InvalidText(line,word) InvalidHands(many) InvalidJob(hand,index) InvalidStart() "
        "InvalidRow(index) UnknownCommand() NotOverfull(many) NotGrown(fault) NotSound(page,word) NotItsLog(key) "
        "Rebuilt(number) NotLater(separator) NoHistory(fault) NoRoom(leaf) TooScarred(strikes)"
    ),
    "KeyError": "Present(key) NoKey(key)",
    "IndexError": "NoPage(level,page) NoHand(hand)",
    "LookupError": "NothingToUndo(count) NotWritten(page) TooEarly(number) LogGap(number)",
    "RuntimeError": "WrongStep(reason) NotRecoverable(page) NotFinished(page)",
    "OverflowError": "TooMany(limit) TooLong(limit) TooLarge(limit) Full(limit)",
}

BASES = {
    "ScarError": errors.ScarError,
    "KeyError": KeyError,
    "IndexError": IndexError,
    "LookupError": LookupError,
    "RuntimeError": RuntimeError,
    "OverflowError": OverflowError,
}


def rows():
    """Each class with its base and the names of its arguments."""
    for base, text in TABLE.items():
        for form in text.split():
            name, _, rest = form.rstrip(")").partition("(")
            yield getattr(errors, name), BASES[base], [word for word in rest.split(",") if word]


VALUES = [None, True, 7, -10 ** 60, "word", "", (1, [2]), [3], {"a": 4}]


class Errors(unittest.TestCase):
    def test_all_are_there(self):
        self.assertEqual(len(list(rows())), 37)

    def test_bases(self):
        self.assertEqual(errors.ScarError.__bases__, (ValueError,))
        for made, base, _ in rows():
            self.assertEqual(made.__bases__, (base,), made)

    def test_no_class_is_derived_from_another_one(self):
        classes = [made for made, _, _ in rows()]
        for made in classes:
            for other in classes:
                if made is not other:
                    self.assertFalse(issubclass(made, other), (made, other))
            self.assertEqual(issubclass(made, errors.ScarError), made.__bases__ == (errors.ScarError,))

    def test_by_position(self):
        for made, _, names in rows():
            for start in range(len(VALUES)):
                values = [VALUES[(start + at) % len(VALUES)] for at in range(len(names))]
                error = made(*values)
                for name, value in zip(names, values):
                    self.assertIs(getattr(error, name), value)

    def test_by_name(self):
        for made, _, names in rows():
            for start in range(len(VALUES)):
                values = {name: VALUES[(start + at) % len(VALUES)] for at, name in enumerate(names)}
                error = made(**values)
                for name in names:
                    self.assertIs(getattr(error, name), values[name])

    def test_no_other_arguments(self):
        for made, _, names in rows():
            with self.assertRaises(TypeError):
                made(*range(len(names) + 1))

    def test_raised_and_shown(self):
        for made, base, names in rows():
            with self.assertRaises(base) as caught:
                raise made(*[0 for _ in names])
            self.assertNotEqual(str(caught.exception), "")


if __name__ == "__main__":
    unittest.main()
