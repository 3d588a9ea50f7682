"""Points 2, 5, 6 and 7: programs read and shown."""

import itertools
import unittest

from fewnotes import errors
from fewnotes.programs import read, shown

ALL_FORMS = """cells 3
hand
load a 0
store 1 b
swap h 2 a+7
let c 999
say c-d
go 7
unless a = 12 go 0
unless 3-b < a+b go 9
say 0
hand
hand
say 1+2"""

ALL_FORMS_READ = (3, [
    [
        ("load", "a", 0),
        ("store", 1, ("box", "b")),
        ("swap", "h", 2, ("plus", ("box", "a"), ("number", 7))),
        ("let", "c", ("number", 999)),
        ("say", ("minus", ("box", "c"), ("box", "d"))),
        ("go", 7),
        ("unless", "=", ("box", "a"), ("number", 12), 0),
        ("unless", "<", ("minus", ("number", 3), ("box", "b")), ("plus", ("box", "a"), ("box", "b")), 9),
        ("say", ("number", 0)),
    ],
    [],
    [("say", ("plus", ("number", 1), ("number", 2)))],
])

SINGLES = [("0", ("number", 0)), ("7", ("number", 7)), ("10", ("number", 10)), ("999", ("number", 999))]
SINGLES += [(box, ("box", box)) for box in "abcdefgh"]


def plain(thing):
    """Whether the thing, down to what is within it, is of told kinds."""
    if type(thing) in (list, tuple):
        return all(plain(part) for part in thing)
    return type(thing) in (int, str)


class Refusals(unittest.TestCase):
    def refused(self, text, name, row):
        with self.assertRaises(errors.NoteError, msg=repr(text)) as taken:
            read(text)
        self.assertEqual((type(taken.exception).__name__, taken.exception.row), (name, row), repr(text))


class Read(unittest.TestCase):
    def test_all_forms(self):
        self.assertEqual(read(ALL_FORMS), ALL_FORMS_READ)

    def test_kinds(self):
        program = read(ALL_FORMS)
        self.assertIs(type(program), tuple)
        self.assertIs(type(program[1]), list)
        for hand in program[1]:
            self.assertIs(type(hand), list)
            for row in hand:
                self.assertIs(type(row), tuple)
        self.assertTrue(plain(program))

    def test_every_sum(self):
        for word, value in SINGLES:
            self.assertEqual(read("cells 1\nhand\nsay " + word), (1, [[("say", value)]]))
        for (left, x), (right, y) in itertools.product(SINGLES, SINGLES):
            for sign, kind in (("+", "plus"), ("-", "minus")):
                text = "cells 1\nhand\nlet a " + left + sign + right
                self.assertEqual(read(text), (1, [[("let", "a", (kind, x, y))]]))
                self.assertEqual(shown(read(text)), text)

    def test_every_box(self):
        for box in "abcdefgh":
            text = f"cells 1\nhand\nload {box} 0\nswap {box} 0 {box}\nlet {box} {box}"
            rows = [("load", box, 0), ("swap", box, 0, ("box", box)), ("let", box, ("box", box))]
            self.assertEqual(read(text), (1, [rows]))

    def test_every_count_of_cells(self):
        for count in range(1, 21):
            self.assertEqual(read(f"cells {count}\nhand"), (count, [[]]))

    def test_every_cell(self):
        for cell in range(20):
            text = f"cells {cell + 1}\nhand\nload a {cell}\nstore {cell} 1\nswap b {cell} 2"
            rows = [("load", "a", cell), ("store", cell, ("number", 1)), ("swap", "b", cell, ("number", 2))]
            self.assertEqual(read(text), (cell + 1, [rows]))

    def test_eight_hands(self):
        self.assertEqual(read("cells 1" + 8 * "\nhand"), (1, 8 * [[]]))

    def test_sixty_rows_in_each_of_eight_hands(self):
        text = "cells 1" + 8 * ("\nhand" + 60 * "\nsay 1")
        self.assertEqual(read(text), (1, 8 * [60 * [("say", ("number", 1))]]))

    def test_targets_up_to_the_end(self):
        for k in range(4):
            text = f"cells 1\nhand\nsay 1\ngo {k}\nunless 1 = 2 go {k}"
            rows = [("say", ("number", 1)), ("go", k), ("unless", "=", ("number", 1), ("number", 2), k)]
            self.assertEqual(read(text), (1, [rows]))

    def test_the_last_target_there_may_be(self):
        text = "cells 1\nhand\ngo 60" + 59 * "\nsay 1"
        self.assertEqual(read(text)[1][0][0], ("go", 60))

    def test_told_anew_each_time(self):
        first = read(ALL_FORMS)
        first[1][0].append("more")
        first[1].pop()
        self.assertEqual(read(ALL_FORMS), ALL_FORMS_READ)

    def test_hands_without_rows_are_lists_of_their_own(self):
        hands = read("cells 1\nhand\nhand")[1]
        hands[0].append("more")
        self.assertEqual(hands[1], [])


class NoRows(Refusals):
    def test_empty_text_and_rows(self):
        self.refused("", "NoRow", 1)
        self.refused("\n", "NoRow", 1)
        self.refused("\ncells 1\nhand", "NoRow", 1)
        self.refused("cells 1\n\nhand", "NoRow", 2)
        self.refused("cells 1\nhand\n", "NoRow", 3)
        self.refused("cells 1\nhand\nsay 1\n\nsay 1", "NoRow", 4)
        self.refused("cells 1\n", "NoRow", 2)

    def test_the_first_row_is_cells(self):
        for row in ["hand", "say 1", "load a 0", "load a 99", "go 5", "cell 1", "cells", "Cells 1", "cells 1 1"]:
            self.refused(row, "NoRow", 1)
            self.refused(row + "\ncells 1\nhand", "NoRow", 1)

    def test_counts_of_cells_of_no_form(self):
        for count in ["", "a", "-1", "+1", "01", "00", "007", "1000", "0001", "1.0", "1+1", "x", "1_0"]:
            self.refused(f"cells {count}\nhand", "NoRow", 1)

    def test_a_second_cells(self):
        for count in ["1", "0", "21", "999"]:
            self.refused(f"cells 1\ncells {count}\nhand", "NoRow", 2)
            self.refused(f"cells 1\nhand\ncells {count}", "NoRow", 3)
            self.refused(f"cells 1\nhand\nsay 1\ncells {count}\nhand", "NoRow", 4)

    def test_a_row_ahead_of_any_hand(self):
        for row in ["load a 0", "store 0 1", "swap a 0 1", "let a 1", "say 1", "go 0", "unless 1 = 1 go 0",
                    "unless 1 < 1 go 0"]:
            self.refused(f"cells 1\n{row}\nhand", "NoRow", 2)

    def test_no_hand_at_all(self):
        self.refused("cells 1", "NoRow", 2)
        self.refused("cells 20", "NoRow", 2)

    def test_blanks(self):
        for row in ["load a 0", "store 0 a+1", "swap a 0 1", "let a 1", "say 1", "go 0", "unless 1 = 1 go 0",
                    "unless 1 < 1 go 0", "hand"]:
            self.refused(f"cells 1\nhand\n {row}", "NoRow", 3)
            self.refused(f"cells 1\nhand\n{row} ", "NoRow", 3)
            if " " in row:
                for k in range(row.count(" ")):
                    words = row.split(" ")
                    words[k] += " "
                    self.refused("cells 1\nhand\n" + " ".join(words), "NoRow", 3)
        self.refused(" cells 1\nhand", "NoRow", 1)
        self.refused("cells 1 \nhand", "NoRow", 1)
        self.refused("cells  1\nhand", "NoRow", 1)
        self.refused("cells 1\nhand\n ", "NoRow", 3)
        self.refused("cells 1\nhand\nsay a + b", "NoRow", 3)
        self.refused("cells 1\nhand\nsay a +b", "NoRow", 3)
        self.refused("cells 1\nhand\nunless a=b go 0", "NoRow", 3)

    def test_words_too_many_or_too_few(self):
        for row in ["hand", "load a 0", "store 0 1", "swap a 0 1", "let a 1", "say 1", "go 0",
                    "unless 1 = 1 go 0", "unless 1 < 1 go 0"]:
            self.refused(f"cells 1\nhand\n{row} 1", "NoRow", 3)
            self.refused(f"cells 1\nhand\n{row} a", "NoRow", 3)
            if row != "hand":
                self.refused("cells 1\nhand\n" + row.rpartition(" ")[0], "NoRow", 3)
                self.refused("cells 1\nhand\n" + row.partition(" ")[2], "NoRow", 3)

    def test_words_that_are_none(self):
        for row in ["Hand", "hands", "LOAD a 0", "jump 0", "number 1", "box a", "sum 1", "unless", "Say 1"]:
            self.refused("cells 1\nhand\n" + row, "NoRow", 3)

    def test_boxes_that_are_none(self):
        for box in ["i", "A", "aa", "ab", "1", "", "z", "`", "a+b"]:
            for row in ["load {} 0", "swap {} 0 1", "let {} 1"]:
                self.refused("cells 1\nhand\n" + row.replace("{}", box), "NoRow", 3)

    def test_numbers_of_no_form(self):
        for number in ["", "00", "01", "000", "012", "1000", "0000", "-1", "+1", "a", "1+0", "1.", "x1", "1x"]:
            for row in ["load a {}", "store {} 1", "swap a {} 1", "go {}", "unless 1 = 1 go {}", "unless 1 < 1 go {}"]:
                self.refused("cells 1\nhand\n" + row.replace("{}", number), "NoRow", 3)

    def test_sums_of_no_form(self):
        for word in ["", "00", "01", "1000", "-1", "+1", "-a", "+", "-", "a+", "a-", "+a", "a+b+c", "a-b-c", "a+b-c",
                     "a-b+c", "a++b", "a--b", "a+-b", "a-+b", "i", "a+i", "i-a", "ab", "1a", "a1", "a*b", "a+01",
                     "01-a", "1000+a", "a-1000", "(a)", "A"]:
            for row in ["store 0 {}", "swap a 0 {}", "let a {}", "say {}", "unless {} = 1 go 0", "unless 1 = {} go 0",
                        "unless {} < 1 go 0", "unless 1 < {} go 0"]:
                self.refused("cells 1\nhand\n" + row.replace("{}", word), "NoRow", 3)

    def test_signs_and_go_of_unless(self):
        for row in ["unless 1 > 1 go 0", "unless 1 == 1 go 0", "unless 1 <= 1 go 0", "unless 1 + 1 go 0",
                    "unless 1 a 1 go 0", "unless 1 = 1 to 0", "unless 1 = 1 Go 0", "unless 1 = 1 0 go", "unless = 1 1 go 0",
                    "unless 1  1 go 0"]:
            self.refused("cells 1\nhand\n" + row, "NoRow", 3)


class NoCells(Refusals):
    def test_counts_out_of_bounds(self):
        for count in ["0", "21", "22", "99", "100", "999"]:
            self.refused(f"cells {count}\nhand", "NoCell", 1)
            self.refused(f"cells {count}", "NoCell", 1)

    def test_cells_that_there_are_not(self):
        for count, cell in [(1, 1), (1, 2), (3, 3), (3, 19), (20, 20), (20, 999), (19, 19)]:
            for row in [f"load a {cell}", f"store {cell} 1", f"swap a {cell} 1"]:
                self.refused(f"cells {count}\nhand\nsay 1\nhand\n{row}", "NoCell", 5)

    def test_numbers_elsewhere_are_no_cells(self):
        rows = "let a 999\nsay 20\nstore 0 500\nswap a 0 20\ngo 5"
        self.assertEqual(shown(read("cells 1\nhand\n" + rows)), "cells 1\nhand\n" + rows)


class Fulls(Refusals):
    def test_a_ninth_hand(self):
        self.refused("cells 1" + 9 * "\nhand", "Full", 10)
        self.refused("cells 1" + 8 * "\nhand\nsay 1" + "\nhand\nno row", "Full", 18)

    def test_a_sixty_first_row(self):
        self.refused("cells 1\nhand" + 61 * "\nsay 1", "Full", 63)
        self.refused("cells 1\nhand\nhand" + 61 * "\nsay 1", "Full", 64)
        self.refused("cells 1\nhand" + 60 * "\nsay 1" + "\nhand" + 61 * "\nsay 1", "Full", 124)

    def test_rows_are_counted_by_hand(self):
        text = "cells 1\nhand" + 60 * "\nsay 1" + "\nhand" + 60 * "\ngo 60"
        self.assertEqual([len(hand) for hand in read(text)[1]], [60, 60])


class NoTargets(Refusals):
    def test_one_beyond_the_end(self):
        self.refused("cells 1\nhand\ngo 2", "NoTarget", 3)
        self.refused("cells 1\nhand\nunless 1 = 1 go 2", "NoTarget", 3)
        self.refused("cells 1\nhand\nunless 1 < 1 go 2", "NoTarget", 3)
        self.refused("cells 1\nhand\nsay 1\ngo 3\nhand", "NoTarget", 4)
        self.refused("cells 1\nhand\ngo 999", "NoTarget", 3)

    def test_by_its_own_hand(self):
        self.refused("cells 1\nhand\nsay 1\nsay 1\nsay 1\nhand\ngo 2", "NoTarget", 7)
        self.refused("cells 1\nhand\nhand\nhand\nsay 1\ngo 3\nhand\ngo 9", "NoTarget", 6)
        self.refused("cells 1\nhand\ngo 2\nhand\nsay 1\nsay 1\nsay 1", "NoTarget", 3)

    def test_the_first_such(self):
        self.refused("cells 1\nhand\ngo 3\ngo 4", "NoTarget", 3)
        self.refused("cells 1\nhand\ngo 2\ngo 4\nhand\ngo 9", "NoTarget", 4)
        self.refused("cells 1\nhand\nunless 1 = 1 go 4\ngo 9", "NoTarget", 3)


class WhichGoesFirst(Refusals):
    def test_in_one_row(self):
        self.refused("cells 1\nload a 5\nhand", "NoRow", 2)
        self.refused("cells 1\nhand\nload i 5", "NoRow", 3)
        self.refused("cells 1\nhand\nstore 5 a+", "NoRow", 3)
        self.refused("cells 1\nhand" + 60 * "\nsay 1" + "\nload i 5", "NoRow", 63)
        self.refused("cells 1\nhand" + 60 * "\nsay 1" + "\nload a 5", "NoCell", 63)
        self.refused("cells 1\nhand" + 60 * "\nsay 1" + "\ngo 999", "Full", 63)
        self.refused("cells 1" + 8 * "\nhand" + "\nhand 1", "NoRow", 10)
        self.refused("cells 1" + 8 * "\nhand" + "\ncells 0", "NoRow", 10)
        self.refused("cells 0\ncells 0", "NoCell", 1)

    def test_in_several_rows(self):
        self.refused("cells 0\nno row", "NoCell", 1)
        self.refused("cells 21\nsay 1", "NoCell", 1)
        self.refused("cells 1\nhand\nload a 1\nno row", "NoCell", 3)
        self.refused("cells 1\nhand\nno row\nload a 1", "NoRow", 3)
        self.refused("cells 1\nhand\ngo 9\nload a 1", "NoCell", 4)
        self.refused("cells 1\nhand\ngo 9\nno row", "NoRow", 4)
        self.refused("cells 1\nhand\ngo 99" + 60 * "\nsay 1", "Full", 63)
        self.refused("cells 1\nhand\ngo 99" + 8 * "\nhand", "Full", 11)
        self.refused("cells 1\nhand" + 61 * "\nsay 1" + "\nload a 1", "Full", 63)
        self.refused("cells 1\nhand" + 59 * "\nsay 1" + "\nload a 1\nsay 1", "NoCell", 62)
        self.refused("cells 1" + 9 * "\nhand" + "\nno row", "Full", 10)
        self.refused("cells 1\nhand\ngo 9\n", "NoRow", 4)
        self.refused("no row\ncells 0", "NoRow", 1)


class Shown(unittest.TestCase):
    def test_all_forms(self):
        self.assertEqual(shown(ALL_FORMS_READ), ALL_FORMS)
        self.assertEqual(read(shown(ALL_FORMS_READ)), ALL_FORMS_READ)

    def test_without_rows(self):
        self.assertEqual(shown((20, [[]])), "cells 20\nhand")
        self.assertEqual(shown((1, [[], [], []])), "cells 1\nhand\nhand\nhand")

    def test_the_largest(self):
        text = "cells 20" + 8 * ("\nhand" + 60 * "\nunless 100-200 < 300+400 go 60")
        self.assertEqual(shown(read(text)), text)

    def test_nothing_is_changed(self):
        program = read(ALL_FORMS)
        self.assertEqual(shown(program), ALL_FORMS)
        self.assertEqual(program, ALL_FORMS_READ)
        self.assertEqual(shown(program), ALL_FORMS)


if __name__ == "__main__":
    unittest.main()
