"""Points 2, 3 and 33: the texts of records."""

import copy
import random
import unittest

from fewnotes import errors
from fewnotes.texts import read_record, record_text

RECORD = ([3, 0, 12], [(0, 2, 2, 11), (2, 0, 0, 0), (0, 2, 2, 11), (0, 1, 2, 3)])
TEXT = "counts 3 0 12\n0.2 2.11\n2.0 0.0\n0.2 2.11\n0.1 2.3"

# Beginnings of texts without the form, each by one fault.
NO_COUNTS = [
    "", " ", "count", "counts3", "Counts", "counts:", "count 3", "3 0", "0.0 1.0", "COUNTS 1", "counts counts",
    " counts", " counts 3", "counts ", "counts 3 ", "counts  3", "counts 3  3", "counts 3 3 ",
    "counts 03", "counts 00", "counts 3 01", "counts 000", "counts 0000", "counts 1000", "counts 0300",
    "counts -1", "counts +1", "counts 1.0", "counts a", "counts 3,3", "counts 3-1", "counts 1_0", "counts 3 x",
    "counts 1 1 1 1 1 1 1 1 1", "counts 0 0 0 0 0 0 0 0 0", "counts 301", "counts 999", "counts 300 1",
    "counts 150 151", "counts 38 38 38 38 38 38 38 35", "counts 0 0 0 0 0 0 0 301",
]

# Rows that are no notes.
NO_ROWS = [
    "", " ", "0.0", "0.0 ", " 0.0", "0.0  1.0", " 0.0 1.0", "0.0 1.0 ", "0.0 1.0 1.0", "0.0 1.0 2", "0.0 1", "0 1.0",
    "0 0 1 0", "0.0.0 1.0", "0.0 1.0.0", "0..0 1.0", ".0 1.0", "0. 1.0", "0.0 .0", "0.0 1.", ". .", "0.0,1.0",
    "0.0-1.0", "0.0 -1.0", "0.-1 1.0", "0.0 1.+0", "00.0 1.0", "0.00 1.0", "0.0 01.0", "0.0 1.00", "0.01 1.0",
    "0.0 1.000", "1000.0 1.0", "0.1000 1.0", "0.0 1000.0", "0.0 1.1000", "0.0001 1.0", "a.0 1.0", "0.a 1.0", "0.0 b.0",
    "0.0 1.b", "0:0 1:0", "(0, 0, 1, 0)", "counts", "counts 3 3", "0.0 1.0;", "0 .0 1.0", "0. 0 1.0", "0.0 1.1_0",
]

# Notes that have the form but are none between touches of counts 3 0 2.
NO_NOTES = ["3.0 0.0", "0.0 3.0", "8.0 0.0", "0.0 999.0", "0.0 0.1", "2.0 2.0", "0.3 2.0", "0.0 2.2", "1.0 0.0",
            "0.0 1.0", "0.999 2.0", "2.1 0.3"]


class Refusing(unittest.TestCase):
    def refused(self, error, deed, *given):
        with self.assertRaises(errors.NoteError, msg=repr(given)) as taken:
            deed(*given)
        self.assertIs(type(taken.exception), error, given)


class Told(unittest.TestCase):
    def test_some(self):
        self.assertEqual(record_text(RECORD), TEXT)
        self.assertIs(type(record_text(RECORD)), str)

    def test_counts_alone(self):
        self.assertEqual(record_text(([3], [])), "counts 3")
        self.assertEqual(record_text(([3, 0, 2], [])), "counts 3 0 2")
        self.assertEqual(record_text(([0, 0], [])), "counts 0 0")
        self.assertEqual(record_text(([300], [])), "counts 300")

    def test_no_counts(self):
        self.assertEqual(record_text(([], [])), "counts")

    def test_notes_stand_as_they_do_in_the_record(self):
        self.assertEqual(record_text(([1, 1], [(1, 0, 0, 0), (0, 0, 1, 0), (1, 0, 0, 0)])),
                         "counts 1 1\n1.0 0.0\n0.0 1.0\n1.0 0.0")

    def test_numbers_of_several_figures(self):
        self.assertEqual(record_text(([199, 101], [(0, 198, 1, 100), (1, 10, 0, 99)])),
                         "counts 199 101\n0.198 1.100\n1.10 0.99")

    def test_nothing_is_changed(self):
        record = copy.deepcopy(RECORD)
        self.assertEqual(record_text(record), TEXT)
        self.assertEqual(record, RECORD)
        self.assertEqual(record_text(record), TEXT)


class Read(Refusing):
    def test_some(self):
        self.assertEqual(read_record(TEXT), RECORD)

    def test_the_kinds(self):
        told = read_record(TEXT)
        self.assertIs(type(told), tuple)
        self.assertEqual([type(part) for part in told], [list, list])
        self.assertTrue(all(type(note) is tuple and len(note) == 4 for note in told[1]))
        self.assertTrue(all(type(number) is int for note in told[1] for number in note))
        self.assertTrue(all(type(count) is int for count in told[0]))

    def test_counts_alone(self):
        self.assertEqual(read_record("counts 3"), ([3], []))
        self.assertEqual(read_record("counts 0 10 0"), ([0, 10, 0], []))
        self.assertEqual(read_record("counts 0"), ([0], []))

    def test_no_counts(self):
        self.assertEqual(read_record("counts"), ([], []))

    def test_the_most(self):
        self.assertEqual(read_record("counts 300"), ([300], []))
        self.assertEqual(read_record("counts 0 0 0 0 0 0 0 300"), ([0, 0, 0, 0, 0, 0, 0, 300], []))
        self.assertEqual(read_record("counts 38 38 38 38 37 37 37 37"), ([38, 38, 38, 38, 37, 37, 37, 37], []))
        self.assertEqual(read_record("counts 150 150\n0.149 1.149\n1.149 0.0"),
                         ([150, 150], [(0, 149, 1, 149), (1, 149, 0, 0)]))

    def test_read_back(self):
        chance = random.Random(1)
        for turn in range(200):
            counts = [chance.randrange(38) for hand in range(chance.randrange(9))]
            touches = [(hand, k) for hand, count in enumerate(counts) for k in range(count)]
            pairs = [one + other for one in touches for other in touches if one[0] != other[0]]
            record = (counts, [chance.choice(pairs) for note in range(chance.randrange(20))] if pairs else [])
            text = record_text(record)
            self.assertEqual(read_record(text), record)
            self.assertEqual(record_text(read_record(text)), text)

    def test_two_thousand_notes(self):
        record = ([150, 150], 2000 * [(0, 149, 1, 149)])
        self.assertEqual(read_record(record_text(record)), record)

    def test_each_time_anew(self):
        told = read_record(TEXT)
        told[0].append(5)
        told[1].clear()
        self.assertEqual(read_record(TEXT), RECORD)

    def test_no_counts_no_text(self):
        for text in NO_COUNTS:
            self.refused(errors.NoText, read_record, text)
            self.refused(errors.NoText, read_record, text + "\n0.0 2.0")
            self.refused(errors.NoText, read_record, text + "\n9.0 2.0")

    def test_line_feeds_ahead_between_and_behind(self):
        for text in ["\n", "\ncounts", "\ncounts 3 0 2", "counts\n", "counts 3 0 2\n", "counts 3 0 2\n\n",
                     "counts 3 0 2\n\n0.0 2.0", "counts 3 0 2\n0.0 2.0\n", "counts 3 0 2\n0.0 2.0\n\n2.0 0.0",
                     "counts\n3 0 2", "counts 3 0 2\n0.0\n2.0"]:
            self.refused(errors.NoText, read_record, text)

    def test_no_note_no_text(self):
        for row in NO_ROWS:
            self.refused(errors.NoText, read_record, "counts 3 0 2\n" + row)
            self.refused(errors.NoText, read_record, "counts 3 0 2\n0.0 2.0\n" + row)
            self.refused(errors.NoText, read_record, "counts 3 0 2\n" + row + "\n0.0 2.0")

    def test_no_notes(self):
        for row in NO_NOTES:
            self.refused(errors.NoNote, read_record, "counts 3 0 2\n" + row)
            self.refused(errors.NoNote, read_record, "counts 3 0 2\n0.0 2.0\n" + row)
            self.refused(errors.NoNote, read_record, "counts 3 0 2\n" + row + "\n0.0 2.0")
        self.refused(errors.NoNote, read_record, "counts\n0.0 1.0")
        self.refused(errors.NoNote, read_record, "counts 0 0\n0.0 1.0")
        self.refused(errors.NoNote, read_record, "counts 3\n0.0 1.0")

    def test_no_text_goes_ahead_of_no_note(self):
        for row in NO_ROWS:
            self.refused(errors.NoText, read_record, "counts 3 0 2\n9.0 2.0\n" + row)
            self.refused(errors.NoText, read_record, "counts 3 0 2\n" + row + "\n9.0 2.0")
        for row in NO_NOTES:
            self.refused(errors.NoText, read_record, "counts 3 0 02\n" + row)
            self.refused(errors.NoText, read_record, "counts 299 0 2\n" + row)
            self.refused(errors.NoText, read_record, "counts 3 0 2\n" + row + "\n")

    def test_figures_of_other_scripts_are_none(self):
        self.refused(errors.NoText, read_record, "counts \u0663")


if __name__ == "__main__":
    unittest.main()
