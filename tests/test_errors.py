import unittest

from cutstand import errors

FIELDS = {
    "NoForm": ("word", "number"),
    "NoDeed": ("number",),
    "NoCut": ("place", "word"),
    "NoTaking": ("word", "number"),
    "NoNumbers": ("machine", "choice"),
    "NoLine": ("machine", "choice", "word"),
    "NoZigzag": ("number", "word"),
    "NoWorld": ("machine", "word"),
    "NoRun": ("number",),
    "NoText": ("at",),
}
NAMES = sorted(FIELDS) + ["NoRow"]


class Errors(unittest.TestCase):

    def test_the_base_is_a_value_error(self):
        self.assertTrue(issubclass(errors.CutError, ValueError))

    def test_each_stands_under_the_base_and_under_no_other(self):
        for name in NAMES:
            one = getattr(errors, name)
            self.assertTrue(issubclass(one, errors.CutError), name)
            self.assertTrue(issubclass(one, ValueError), name)
            for other in NAMES:
                if other != name:
                    self.assertFalse(issubclass(one, getattr(errors, other)), (name, other))

    def test_fields_in_their_order_under_their_names(self):
        values = [("seven", 7), (7, "seven"), (None, None), (-1, ""), (10 ** 19, "a b"), (0, 0)]
        for name, fields in FIELDS.items():
            for first, second in values:
                handed = (first, second, "third")[:len(fields)]
                made = getattr(errors, name)(*handed)
                self.assertEqual(tuple(getattr(made, field) for field in fields), handed, name)

    def test_made_of_just_its_fields(self):
        for name, fields in FIELDS.items():
            for many in (len(fields) - 1, len(fields) + 1):
                with self.assertRaises(TypeError):
                    getattr(errors, name)(*range(many))

    def test_no_row_of_any_text(self):
        for text in ("", "a", "fall 0,1", "a~ {x} {0} \\", "two\nlines", "x" * 2000):
            with self.assertRaises(errors.NoRow) as caught:
                raise errors.NoRow(text)
            self.assertIsInstance(str(caught.exception), str)

    def test_taken_by_the_base(self):
        for name, fields in FIELDS.items():
            with self.assertRaises(errors.CutError):
                raise getattr(errors, name)(*(0,) * len(fields))


if __name__ == "__main__":
    unittest.main()
