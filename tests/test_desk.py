"""Points 2, 3, 34 and 35: the desk."""

import random
import unittest

from fewnotes import errors
from fewnotes.desk import Desk
from fewnotes.notes import notes
from fewnotes.programs import read, shown
from fewnotes.strict import strict_notes
from fewnotes.webs import web_of
from fewnotes.works import Works

RACE = ["cells 2", "hand", "load a 0", "store 0 a+1", "say a", "hand", "load a 0", "store 0 a+1", "say a+7", "say 3"]
ALONE = ["notes", "strict", "again", "free", "cells", "gone"]
OF_A_HAND = ["turn", "go", "said", "told"]
ASKED = ["notes", "strict", "free", "cells", "gone"]


class Refusing(unittest.TestCase):
    def refused(self, error, deed, *given):
        with self.assertRaises(errors.NoteError, msg=repr(given)) as taken:
            deed(*given)
        self.assertIs(type(taken.exception), error, given)
        return taken.exception

    def says(self, desk, *pairs):
        for row, answer in pairs:
            self.assertEqual(desk.say(row), answer, row)

    def desk(self, rows=None, *turns):
        """A desk with a program that is read, and some turns of its run."""
        desk = Desk()
        for row in RACE if rows is None else rows:
            self.says(desk, ("row " + row, "ok"))
        desk.say("read")
        for hand in turns:
            desk.say(f"turn {hand}")
        return desk


def all_told(desk, hands):
    """All that can be asked of a desk without changing it."""
    return [desk.say(row) for row in ASKED] + [desk.say(f"{word} {hand}") for word in ["said", "told"]
                                               for hand in range(hands)]


def touch_words(touch):
    return " ".join("-" if part is None else str(part) for part in touch)


def note_words(some):
    return " ".join(f"{h}.{k} {o}.{m}" for h, k, o, m in some) or "none"


class Rows(Refusing):
    def test_ok(self):
        desk = Desk()
        for row in ["row cells 1", "row hand", "row ", "row  ", "row   say  1 ", "row row x", "row nonsense ~!$&{}",
                    "row -", "row " + 300 * "x"]:
            self.assertEqual(desk.say(row), "ok", row)

    def test_rows_are_read_as_they_were_told(self):
        self.says(Desk(), ("row cells 1", "ok"), ("row hand", "ok"), ("read", "hands 1"))
        for rows, due, number in [
            ([" cells 1", "hand"], errors.NoRow, 1),
            (["cells 1 ", "hand"], errors.NoRow, 1),
            (["cells 1", "hand", ""], errors.NoRow, 3),
            (["cells 1", "", "hand"], errors.NoRow, 2),
            (["", "cells 1", "hand"], errors.NoRow, 1),
            ([""], errors.NoRow, 1),
            (["", ""], errors.NoRow, 1),
            (["cells 1", "hand", "say  1"], errors.NoRow, 3),
            (["cells 1", "hand", " "], errors.NoRow, 3),
        ]:
            desk = Desk()
            for row in rows:
                self.assertEqual(desk.say("row " + row), "ok")
            self.assertEqual(self.refused(due, desk.say, "read").row, number, rows)

    def test_drop(self):
        desk = Desk()
        self.says(desk, ("drop", "ok"), ("row nonsense", "ok"), ("drop", "ok"), ("row cells 1", "ok"),
                  ("row hand", "ok"), ("read", "hands 1"), ("drop", "ok"), ("drop", "ok"))
        self.assertEqual(self.refused(errors.NoRow, desk.say, "read").row, 1)

    def test_drop_changes_no_run(self):
        desk = self.desk(None, 0, 1, 0)
        self.says(desk, ("again", "ok"), ("go 1", "load 0 0 -"))
        before = all_told(desk, 2)
        self.assertEqual(desk.say("drop"), "ok")
        self.assertEqual(all_told(desk, 2), before)
        self.says(desk, ("turn 1", "store 0 - 1"), ("go 0", "load 0 0 -"), ("again", "ok"), ("free", "0 1"))

    def test_row_changes_no_run(self):
        desk = self.desk(None, 0, 1, 0)
        before = all_told(desk, 2)
        self.says(desk, ("row hand", "ok"), ("row nonsense", "ok"))
        self.assertEqual(all_told(desk, 2), before)
        self.says(desk, ("turn 1", "store 0 - 1"))


class Reading(Refusing):
    def test_hands(self):
        for hands in range(1, 9):
            desk = Desk()
            desk.say("row cells 20")
            for hand in range(hands):
                desk.say("row hand")
            self.assertEqual(desk.say("read"), f"hands {hands}")

    def test_no_rows(self):
        self.assertEqual(self.refused(errors.NoRow, Desk().say, "read").row, 1)

    def test_refused_by_its_class_and_row(self):
        for rows, due, number in [
            (["hand"], errors.NoRow, 1),
            (["cells 1"], errors.NoRow, 2),
            (["cells 1", "say 1"], errors.NoRow, 2),
            (["cells 1", "cells 1", "hand"], errors.NoRow, 2),
            (["cells 0", "hand"], errors.NoCell, 1),
            (["cells 21", "hand"], errors.NoCell, 1),
            (["cells 2", "hand", "load a 1", "store 2 1"], errors.NoCell, 4),
            (["cells 1"] + 9 * ["hand"], errors.Full, 10),
            (["cells 1", "hand"] + 61 * ["say 1"], errors.Full, 63),
            (["cells 1", "hand", "go 1", "hand", "go 2"], errors.NoTarget, 5),
        ]:
            desk = Desk()
            for row in rows:
                desk.say("row " + row)
            for again in range(2):
                self.assertEqual(self.refused(due, desk.say, "read").row, number, rows)
            self.refused(errors.NoneYet, desk.say, "cells")

    def test_the_rows_stay(self):
        desk = self.desk(["cells 1", "hand", "load a 0"])
        self.says(desk, ("read", "hands 1"), ("row hand", "ok"), ("row store 0 4", "ok"), ("read", "hands 2"),
                  ("turn 1", "store 0 - 4"), ("turn 0", "load 0 4 -"))

    def test_the_rows_stay_where_they_are_refused(self):
        desk = Desk()
        self.says(desk, ("row cells 1", "ok"))
        self.refused(errors.NoRow, desk.say, "read")
        self.says(desk, ("row hand", "ok"), ("read", "hands 1"), ("row nonsense", "ok"))
        self.assertEqual(self.refused(errors.NoRow, desk.say, "read").row, 3)
        self.assertEqual(self.refused(errors.NoRow, desk.say, "read").row, 3)

    def test_the_run_and_the_replay_stay_where_rows_are_refused(self):
        desk = self.desk(None, 0, 1, 0)
        self.says(desk, ("again", "ok"), ("go 0", "load 0 0 -"), ("row nonsense", "ok"))
        before = all_told(desk, 2)
        self.refused(errors.NoRow, desk.say, "read")
        self.says(desk, ("drop", "ok"))
        self.refused(errors.NoRow, desk.say, "read")
        self.assertEqual(all_told(desk, 2), before)
        self.says(desk, ("turn 1", "store 0 - 1"), ("go 1", "load 0 0 -"), ("again", "ok"), ("go 1", "load 0 0 -"))

    def test_the_beginning(self):
        desk = self.desk()
        self.says(desk, ("notes", "none"), ("strict", "none"), ("free", "none"), ("cells", "0 0"), ("gone", "0 0"),
                  ("said 0", "none"), ("told 0", "none"), ("said 1", "none"), ("told 1", "none"))
        for hand in range(2):
            # The counts of the replay are all 0.
            self.refused(errors.Over, desk.say, f"go {hand}")

    def test_what_is_said_ahead_of_any_touch(self):
        desk = self.desk(["cells 1", "hand", "say 5", "say 0-1", "load a 0", "hand", "hand", "go 0"])
        self.says(desk, ("said 0", "5 999"), ("told 0", "5 999"), ("said 1", "none"), ("told 2", "none"))

    def test_read_again_begins_anew(self):
        desk = self.desk(None, 0, 1, 0)
        self.says(desk, ("again", "ok"), ("go 0", "load 0 0 -"), ("read", "hands 2"))
        self.assertEqual(all_told(desk, 2), all_told(self.desk(), 2))
        self.refused(errors.Over, desk.say, "go 0")
        self.says(desk, ("turn 1", "load 0 0 -"), ("turn 1", "store 0 - 1"), ("notes", "none"),
                  ("turn 0", "load 0 1 -"), ("notes", "1.1 0.0"), ("again", "ok"), ("free", "1"))

    def test_another_program(self):
        desk = self.desk(None, 0, 1)
        desk.say("drop")
        for row in ["cells 3", "hand", "hand", "hand", "swap b 2 9"]:
            desk.say("row " + row)
        self.says(desk, ("cells", "0 0"), ("read", "hands 3"), ("cells", "0 0 0"), ("turn 2", "swap 2 0 9"),
                  ("cells", "0 0 9"), ("gone", "0 0 0"))
        self.refused(errors.Over, desk.say, "turn 0")


class Going(Refusing):
    def test_a_race(self):
        desk = self.desk()
        self.says(desk, ("turn 0", "load 0 0 -"), ("turn 1", "load 0 0 -"), ("notes", "none"), ("strict", "none"),
                  ("turn 0", "store 0 - 1"), ("notes", "1.0 0.1"), ("strict", "1.0 0.1"), ("said 0", "0"),
                  ("said 1", "none"), ("turn 1", "store 0 - 1"), ("said 1", "7 3"), ("cells", "1 0"),
                  ("notes", "0.1 1.1 1.0 0.1"), ("strict", "0.1 1.1 1.0 0.1"))
        self.says(desk, ("gone", "0 0"), ("told 1", "none"), ("free", "none"))
        self.says(desk, ("again", "ok"), ("free", "0 1"), ("go 1", "load 0 0 -"), ("free", "0"), ("go 0", "load 0 0 -"),
                  ("free", "0"), ("go 0", "store 0 - 1"), ("told 0", "0"), ("free", "1"), ("go 1", "store 0 - 1"),
                  ("free", "none"), ("gone", "1 0"), ("told 1", "7 3"))

    def test_kinds_of_touches(self):
        desk = self.desk(["cells 2", "hand", "let a 4", "store 1 a", "swap b 1 b", "load c 1", "swap a 0 999+1"])
        self.says(desk, ("turn 0", "store 1 - 4"), ("turn 0", "swap 1 4 0"), ("turn 0", "load 1 0 -"),
                  ("turn 0", "swap 0 0 0"), ("again", "ok"), ("go 0", "store 1 - 4"), ("go 0", "swap 1 4 0"),
                  ("go 0", "load 1 0 -"), ("go 0", "swap 0 0 0"))

    def test_twenty_cells(self):
        desk = self.desk(["cells 20", "hand", "store 19 999", "store 10 12"], 0, 0)
        numbers = ["0"] * 20
        self.assertEqual(desk.say("gone"), " ".join(numbers))
        numbers[19], numbers[10] = "999", "12"
        self.assertEqual(desk.say("cells"), " ".join(numbers))

    def test_notes_and_strict_notes_part(self):
        rows = ["cells 2", "hand", "store 0 1", "store 1 1", "hand", "load a 0", "load a 1"]
        desk = self.desk(rows, 0, 0, 1)
        self.says(desk, ("notes", "0.0 1.0"), ("strict", "0.1 1.0"), ("turn 1", "load 1 1 -"),
                  ("notes", "0.0 1.0 0.1 1.1"), ("strict", "0.1 1.0"))
        # The replay goes by the notes, not by the strict ones.
        self.says(desk, ("again", "ok"), ("go 0", "store 0 - 1"), ("free", "0 1"))

    def test_notes_by_numbers(self):
        rows = ["cells 1"] + 3 * (["hand"] + 12 * ["swap a 0 a+1"])
        order = [2] + 11 * [1, 0] + [2, 0]
        desk = self.desk(rows, *order)
        web = web_of(read("\n".join(rows)), order)
        self.assertEqual(desk.say("notes"), note_words(notes(web)))
        self.assertEqual(desk.say("strict"), note_words(strict_notes(web)))
        self.assertTrue(desk.say("notes").startswith("0.0 1.1 0.1 1.2 0.2 1.3 "))
        self.assertIn("0.9 1.10 0.10 2.1 1.0 0.0", desk.say("notes"))

    def test_turn_is_refused(self):
        desk = self.desk(None, 0, 0)
        before = all_told(desk, 2)
        for hand in range(2, 10):
            self.refused(errors.NoHand, desk.say, f"turn {hand}")
        self.refused(errors.Over, desk.say, "turn 0")
        self.assertEqual(all_told(desk, 2), before)
        self.says(desk, ("turn 1", "load 0 1 -"), ("notes", "0.1 1.0"))
        desk = self.desk(["cells 1", "hand", "hand", "go 0"])
        for hand in range(2):
            self.refused(errors.Over, desk.say, f"turn {hand}")

    def test_go_is_refused(self):
        desk = self.desk(None, 0, 0, 1)
        desk.say("again")
        before = all_told(desk, 2)
        for hand in range(2, 10):
            self.refused(errors.NoHand, desk.say, f"go {hand}")
        self.assertEqual(self.refused(errors.Held, desk.say, "go 1").note, (0, 1, 1, 0))
        self.assertEqual(all_told(desk, 2), before)
        desk.say("go 0")
        self.assertEqual(self.refused(errors.Held, desk.say, "go 1").note, (0, 1, 1, 0))
        desk.say("go 0")
        self.refused(errors.Over, desk.say, "go 0")
        self.says(desk, ("go 1", "load 0 1 -"))
        # Its count is done, though the hand waits.
        self.refused(errors.Over, desk.say, "go 1")
        self.says(desk, ("turn 1", "store 0 - 2"))

    def test_said_and_told_are_refused(self):
        desk = self.desk()
        for hand in range(2, 10):
            for word in ["said", "told"]:
                self.refused(errors.NoHand, desk.say, f"{word} {hand}")

    def test_eight_hands(self):
        desk = self.desk(["cells 1"] + 8 * ["hand", "load a 0", "say 6"], 7, 0)
        self.says(desk, ("said 7", "6"), ("said 6", "none"), ("again", "ok"), ("free", "0 7"), ("go 7", "load 0 0 -"),
                  ("free", "0"), ("told 7", "6"), ("told 0", "none"))
        for word in OF_A_HAND:
            for hand in [8, 9]:
                self.refused(errors.NoHand, desk.say, f"{word} {hand}")


class Again(Refusing):
    def test_of_no_turn(self):
        desk = self.desk()
        self.says(desk, ("again", "ok"), ("free", "none"))
        self.refused(errors.Over, desk.say, "go 0")

    def test_turns_behind_change_nothing_of_it(self):
        desk = self.desk(None, 0, 1)
        self.says(desk, ("again", "ok"), ("turn 0", "store 0 - 1"), ("turn 1", "store 0 - 1"), ("free", "0 1"),
                  ("gone", "0 0"), ("told 0", "none"), ("go 0", "load 0 0 -"), ("free", "1"))
        self.refused(errors.Over, desk.say, "go 0")
        self.says(desk, ("go 1", "load 0 0 -"), ("free", "none"), ("again", "ok"), ("free", "0 1"))

    def test_turns_of_it_change_nothing_of_the_run(self):
        desk = self.desk(None, 0, 1)
        desk.say("again")
        before = [desk.say(row) for row in ["notes", "strict", "cells", "said 0", "said 1"]]
        self.says(desk, ("go 1", "load 0 0 -"), ("go 0", "load 0 0 -"))
        self.assertEqual([desk.say(row) for row in ["notes", "strict", "cells", "said 0", "said 1"]], before)
        self.says(desk, ("turn 1", "store 0 - 1"), ("notes", "0.0 1.1"))

    def test_from_the_programs_beginning(self):
        desk = self.desk(None, 0, 0, 1)
        self.says(desk, ("again", "ok"), ("gone", "0 0"), ("cells", "1 0"), ("go 0", "load 0 0 -"), ("again", "ok"),
                  ("gone", "0 0"), ("go 0", "load 0 0 -"), ("go 0", "store 0 - 1"), ("gone", "1 0"), ("again", "ok"),
                  ("gone", "0 0"), ("told 0", "none"), ("free", "0"))

    def test_turns_behind_read_change_nothing_of_the_replay(self):
        desk = self.desk(None, 0, 0, 1)
        self.says(desk, ("free", "none"), ("gone", "0 0"), ("told 0", "none"))


class NoForms(Refusing):
    rows = (["", " ", "row", "Row x", "rows x", " row x", "rowx", "row\n", "row \n", "row x\n", "row \nx", "row x\ny",
             "drop\n", "\ndrop", "read\n", "x", "hand", "cells 1", "load a 0", "none", "ok", "-", "0", "say 1"]
            + [f"{word}{more}" for word in ALONE + ["drop", "read"]
               for more in [" ", " 0", "  ", "s", "\n", " \n", " x"]]
            + [f"{ahead}{word}" for word in ALONE + ["drop", "read"] for ahead in [" ", "0 ", "x"]]
            + [word.upper() for word in ALONE + ["drop", "read", "turn 0", "go 0", "row x"]]
            + [f"{word}{more}" for word in OF_A_HAND
               for more in ["", " ", "  0", " 0 ", " 0 0", " 00", " 01", " 10", " 99", " -1", " +1", " a", " .", " -",
                            " 0\n", " \n", "\n", "0", "0 ", " 0.0", " x", " 0x", " none", " 1000", "s 0", " 0 x"]]
            + [f" {word} 0" for word in OF_A_HAND])

    def test_with_a_program_and_without(self):
        for row in self.rows:
            desk = Desk()
            self.refused(errors.NoForm, desk.say, row)
            desk = self.desk(None, 0)
            before = all_told(desk, 2)
            self.refused(errors.NoForm, desk.say, row)
            self.assertEqual(all_told(desk, 2), before)

    def test_nothing_is_changed(self):
        desk = Desk()
        self.says(desk, ("row cells 1", "ok"), ("row hand", "ok"))
        for row in self.rows:
            self.refused(errors.NoForm, desk.say, row)
        self.says(desk, ("read", "hands 1"))

    def test_every_figure_has_the_form(self):
        desk = self.desk()
        for word in OF_A_HAND:
            for hand in range(10):
                try:
                    desk.say(f"{word} {hand}")
                except errors.NoForm:
                    self.fail(f"{word} {hand}")
                except errors.NoteError:
                    pass


class NoneYet(Refusing):
    def test_without_a_program(self):
        desk = Desk()
        for ahead in ["drop", "row cells 1", "row hand"]:
            desk.say(ahead)
            for row in ALONE + [f"{word} {hand}" for word in OF_A_HAND for hand in range(10)]:
                self.refused(errors.NoneYet, desk.say, row)
        self.says(desk, ("read", "hands 1"), ("cells", "0"))

    def test_behind_a_reading_that_was_refused(self):
        desk = Desk()
        desk.say("row cells 1")
        self.refused(errors.NoRow, desk.say, "read")
        for row in ALONE + [word + " 0" for word in OF_A_HAND]:
            self.refused(errors.NoneYet, desk.say, row)

    def test_no_form_goes_ahead(self):
        for row in ["turn", "turn 10", "cells 0", "notes ", " free"]:
            self.refused(errors.NoForm, Desk().say, row)

    def test_none_yet_goes_ahead_of_no_hand(self):
        self.refused(errors.NoneYet, Desk().say, "turn 9")
        self.refused(errors.NoneYet, Desk().say, "said 9")


class TheWholeDesk(Refusing):
    def test_the_rows_of_a_shown_program(self):
        program = read("\n".join(RACE))
        desk = self.desk(shown(program).split("\n"), 0, 1, 0, 1)
        self.assertEqual(all_told(desk, 2), all_told(self.desk(None, 0, 1, 0, 1), 2))

    def test_runs_told_by_the_other_modules(self):
        chance = random.Random(1)
        for turn in range(60):
            rows = ["cells 2"]
            for hand in range(3):
                rows += ["hand"] + [chance.choice(["load a 0", "load b 1", "store 0 a+3", "store 1 b", "swap a 1 b+1",
                                                   "say a+b", "let b b+2"]) for row in range(6)]
            program = read("\n".join(rows))
            desk, works, order = self.desk(rows), Works(program), []
            while len(order) < 14:
                waiting = [hand for hand in range(3) if works.how(hand) == "waits"]
                if not waiting:
                    break
                order.append(chance.choice(waiting))
                self.assertEqual(desk.say(f"turn {order[-1]}"), touch_words(works.turn(order[-1])))
                web = web_of(program, order)
                self.assertEqual(desk.say("notes"), note_words(notes(web)))
                self.assertEqual(desk.say("strict"), note_words(strict_notes(web)))
                self.assertEqual(desk.say("cells"), " ".join(str(number) for number in works.cells()))
            self.assertEqual(desk.say("again"), "ok")
            free = desk.say("free")
            steps = 0
            while free != "none":
                desk.say("go " + chance.choice(free.split(" ")))
                free = desk.say("free")
                steps += 1
            self.assertEqual(steps, len(order))
            self.assertEqual(desk.say("gone"), desk.say("cells"))
            for hand in range(3):
                self.assertEqual(desk.say(f"told {hand}"), desk.say(f"said {hand}"))
                self.assertEqual(desk.say(f"said {hand}"), " ".join(map(str, works.said(hand))) or "none")

    def test_three_hundred_turns(self):
        order = 100 * [0, 1, 1]
        desk = self.desk(["cells 1"] + 2 * ["hand", "swap a 0 a+1", "go 0"], *order)
        self.assertEqual(desk.say("notes").count("."), 2 * 199)
        self.assertEqual(desk.say("again"), "ok")
        for hand in order:
            self.assertEqual(desk.say("free"), str(hand))
            desk.say(f"go {hand}")
        self.assertEqual((desk.say("free"), desk.say("gone")), ("none", desk.say("cells")))

    def test_desks_are_apart(self):
        one, other = Desk(), Desk()
        one.say("row cells 1")
        one.say("row hand")
        self.assertEqual(one.say("read"), "hands 1")
        self.refused(errors.NoneYet, other.say, "cells")
        self.assertEqual(self.refused(errors.NoRow, other.say, "read").row, 1)

    def test_texts(self):
        desk = self.desk(None, 0, 0, 1)
        for row in ["row x", "drop", "again", "free", "go 0"] + ASKED + ["said 0", "told 1", "turn 1"]:
            self.assertIs(type(desk.say(row)), str)

    def test_the_same_asked_again(self):
        desk = self.desk(None, 0, 0, 1)
        self.assertEqual(all_told(desk, 2), all_told(desk, 2))


if __name__ == "__main__":
    unittest.main()
