"""Points 3, 7 and 28: the classes of the refusals."""

import unittest

from fewnotes import errors

BY_ROW = ["NoRow", "NoCell", "Full", "NoTarget"]
PLAIN = ["NoNumber", "NoHand", "Over", "NoPlace", "NoOrder", "NoNote", "NoCut", "TooMany", "NoText", "NoForm",
         "NoneYet"]


class TheClasses(unittest.TestCase):
    def test_any_refusal_is_a_value_error(self):
        self.assertEqual(errors.NoteError.__bases__, (ValueError,))

    def test_all_stand_under_note_error(self):
        for name in BY_ROW + PLAIN + ["RowError", "Held"]:
            self.assertTrue(issubclass(getattr(errors, name), errors.NoteError), name)

    def test_row_error_is_over_its_four_alone(self):
        self.assertEqual(errors.RowError.__bases__, (errors.NoteError,))
        for name in BY_ROW:
            self.assertTrue(issubclass(getattr(errors, name), errors.RowError), name)
        for name in PLAIN + ["Held"]:
            self.assertFalse(issubclass(getattr(errors, name), errors.RowError), name)

    def test_no_refusal_stands_under_another(self):
        refusals = [getattr(errors, name) for name in BY_ROW + PLAIN + ["Held"]]
        self.assertEqual(len(set(refusals)), 16)
        for one in refusals:
            for other in refusals:
                self.assertEqual(issubclass(one, other), one is other, (one, other))


class TheFields(unittest.TestCase):
    def test_row(self):
        for name in ["RowError"] + BY_ROW:
            error = getattr(errors, name)(17)
            self.assertEqual(error.row, 17, name)
            self.assertIsInstance(error, Exception)

    def test_note(self):
        self.assertEqual(errors.Held((0, 3, 2, 1)).note, (0, 3, 2, 1))

    def test_each_error_has_its_own_field(self):
        one, other = errors.NoRow(1), errors.NoRow(2)
        self.assertEqual((one.row, other.row), (1, 2))

    def test_each_can_be_raised_and_taken_as_note_error(self):
        for name in PLAIN:
            with self.assertRaises(errors.NoteError):
                raise getattr(errors, name)()
        for name in BY_ROW + ["RowError"]:
            with self.assertRaises(errors.NoteError):
                raise getattr(errors, name)(1)
        with self.assertRaises(errors.NoteError):
            raise errors.Held((0, 0, 1, 0))


if __name__ == "__main__":
    unittest.main()
