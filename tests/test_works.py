"""Points 2, 8, 9 and 10: works."""

import copy
import unittest

from fewnotes import errors
from fewnotes.programs import read
from fewnotes.works import Works

BEYOND = [-1, -2, -8, 2, 3, 8, 10 ** 29, -(10 ** 29)]

TWO_HANDS = "\n".join([
    "cells 2",
    "hand",
    "load a 0",
    "store 0 a+1",
    "say a",
    "hand",
    "let b 5",
    "swap b 0 b",
    "store 1 b",
])


def works_of(rows, cells=None, count=3):
    """The works of one hand of the rows."""
    return Works(read(f"cells {count}\nhand\n" + "\n".join(rows)), cells)


def told(works, hands):
    """All that a works tells."""
    each = [(works.boxes(hand), works.said(hand), works.how(hand)) for hand in range(hands)]
    return (works.cells(), each, works.counts(), len(works))


class Refusing(unittest.TestCase):
    def refused(self, error, deed, *given):
        with self.assertRaises(errors.NoteError) as taken:
            deed(*given)
        self.assertIs(type(taken.exception), error, given)


class FirstNumbers(Refusing):
    def setUp(self):
        self.program = read("cells 3\nhand\nload a 2")

    def test_all_nought(self):
        for works in [Works(self.program), Works(self.program, None), Works(self.program, cells=None)]:
            self.assertEqual(works.cells(), [0, 0, 0])
            self.assertEqual(works.boxes(0), 8 * [0])
        self.assertEqual(Works(read("cells 20\nhand")).cells(), 20 * [0])
        self.assertEqual(Works(read("cells 1\nhand")).cells(), [0])

    def test_by_place_and_by_name(self):
        for works in [Works(self.program, [0, 999, 5]), Works(self.program, cells=[0, 999, 5])]:
            self.assertEqual(works.cells(), [0, 999, 5])
            self.assertEqual(works.turn(0), ("load", 2, 5, None))
            self.assertEqual(works.boxes(0), [5, 0, 0, 0, 0, 0, 0, 0])

    def test_refused(self):
        wrong = [[], [0], [0, 0], [0, 0, 0, 0], [0, 0, -1], [-1, 0, 0], [0, 1000, 0], [0, 0, 1000],
                 [10 ** 29, 0, 0], [0, -(10 ** 29), 0], [0, 0, 0, 1000], [1000, 0]]
        for cells in wrong:
            self.refused(errors.NoNumber, Works, self.program, cells)
            with self.assertRaises(errors.NoNumber):
                Works(self.program, cells=cells)

    def test_truths_are_no_numbers(self):
        self.refused(errors.NoNumber, Works, self.program, [True, 0, 0])
        self.refused(errors.NoNumber, Works, self.program, [0, 0, False])

    def test_a_tuple_is_no_list(self):
        self.refused(errors.NoNumber, Works, self.program, (0, 0, 0))

    def test_the_list_stays_the_askers(self):
        cells = [1, 2, 3]
        works = Works(self.program, cells)
        cells[2] = 9
        cells.append(4)
        self.assertEqual(works.cells(), [1, 2, 3])
        self.assertEqual(works.turn(0), ("load", 2, 3, None))
        cells = [1, 2, 3]
        works = Works(read("cells 3\nhand\nstore 0 7"), cells)
        works.turn(0)
        self.assertEqual(cells, [1, 2, 3])


class Reckoning(unittest.TestCase):
    def said(self, *rows):
        return works_of(list(rows)).said(0)

    def test_sums_go_round(self):
        self.assertEqual(self.said("say 999+1", "say 999+999", "say 998+1", "say 500+500", "say 0+0"),
                         [0, 998, 999, 0, 0])

    def test_differences_go_round(self):
        self.assertEqual(self.said("say 0-1", "say 0-999", "say 5-5", "say 7-3", "say 3-7"), [999, 1, 0, 4, 996])

    def test_boxes(self):
        self.assertEqual(self.said("let a 600", "let b a+a", "say b", "let c a-b", "say c", "let a a+c", "say a",
                                   "say h", "say c-a", "say 1-a", "say a-1"), [200, 400, 0, 0, 400, 1, 999])

    def test_each_box_by_itself(self):
        works = works_of([f"let {box} {k + 1}" for k, box in enumerate("abcdefgh")])
        self.assertEqual(works.boxes(0), [1, 2, 3, 4, 5, 6, 7, 8])

    def test_boxes_are_the_hands_own(self):
        works = Works(read("cells 1\nhand\nlet a 1\nhand\nsay a\nlet a 2\nlet h 3"))
        self.assertEqual(works.boxes(0), [1, 0, 0, 0, 0, 0, 0, 0])
        self.assertEqual(works.boxes(1), [2, 0, 0, 0, 0, 0, 0, 3])
        self.assertEqual(works.said(1), [0])

    def test_stored_numbers_go_round(self):
        works = works_of(["store 0 0-1", "store 1 999+2", "swap a 0 999+999"])
        self.assertEqual([works.turn(0) for turn in range(3)],
                         [("store", 0, None, 999), ("store", 1, None, 1), ("swap", 0, 999, 998)])
        self.assertEqual(works.cells(), [998, 1, 0])
        self.assertEqual(works.boxes(0)[0], 999)


class Touching(unittest.TestCase):
    def test_load(self):
        works = works_of(["load c 1"], [4, 5, 6])
        self.assertEqual(works.turn(0), ("load", 1, 5, None))
        self.assertEqual(works.cells(), [4, 5, 6])
        self.assertEqual(works.boxes(0), [0, 0, 5, 0, 0, 0, 0, 0])

    def test_load_of_nought(self):
        works = works_of(["let c 8", "load c 1"])
        self.assertEqual(works.turn(0), ("load", 1, 0, None))
        self.assertEqual(works.boxes(0), 8 * [0])

    def test_store(self):
        works = works_of(["let c 8", "store 2 c+1"], [4, 5, 6])
        self.assertEqual(works.turn(0), ("store", 2, None, 9))
        self.assertEqual(works.cells(), [4, 5, 9])
        self.assertEqual(works.boxes(0), [0, 0, 8, 0, 0, 0, 0, 0])

    def test_store_of_nought(self):
        works = works_of(["store 2 0"], [4, 5, 6])
        self.assertEqual(works.turn(0), ("store", 2, None, 0))
        self.assertEqual(works.cells(), [4, 5, 0])

    def test_swap_is_reckoned_ahead(self):
        works = works_of(["let a 8", "swap a 1 a+a"], [4, 5, 6])
        self.assertEqual(works.turn(0), ("swap", 1, 5, 16))
        self.assertEqual(works.cells(), [4, 16, 6])
        self.assertEqual(works.boxes(0), [5, 0, 0, 0, 0, 0, 0, 0])

    def test_swap_with_noughts(self):
        works = works_of(["let a 8", "swap a 1 0"])
        self.assertEqual(works.turn(0), ("swap", 1, 0, 0))
        self.assertEqual(works.boxes(0), 8 * [0])

    def test_kinds(self):
        works = works_of(["load a 0", "store 0 1", "swap a 0 2"])
        for kind in ["load", "store", "swap"]:
            touch = works.turn(0)
            self.assertIs(type(touch), tuple)
            self.assertEqual(touch[0], kind)

    def test_hands_share_the_cells(self):
        works = Works(read(TWO_HANDS), [40, 0])
        self.assertEqual(works.turn(0), ("load", 0, 40, None))
        self.assertEqual(works.turn(1), ("swap", 0, 40, 5))
        self.assertEqual(works.turn(0), ("store", 0, None, 41))
        self.assertEqual(works.turn(1), ("store", 1, None, 40))
        self.assertEqual(works.cells(), [41, 40])
        self.assertEqual(works.said(0), [40])
        self.assertEqual(works.counts(), [2, 2])
        self.assertEqual(len(works), 4)


class LedOn(unittest.TestCase):
    def test_at_the_beginning(self):
        works = Works(read("cells 1\nhand\nhand\nsay 4\nload a 0\nsay 5\nhand\nlet b 3\nsay b"))
        self.assertEqual([works.how(hand) for hand in range(3)], ["ends", "waits", "ends"])
        self.assertEqual([works.said(hand) for hand in range(3)], [[], [4], [3]])
        self.assertEqual(works.counts(), [0, 0, 0])
        self.assertEqual(len(works), 0)

    def test_behind_a_touch(self):
        works = works_of(["load a 0", "say 1", "store 0 1", "say 2"])
        self.assertEqual((works.said(0), works.how(0)), ([], "waits"))
        works.turn(0)
        self.assertEqual((works.said(0), works.how(0)), ([1], "waits"))
        works.turn(0)
        self.assertEqual((works.said(0), works.how(0)), ([1, 2], "ends"))

    def test_only_the_hand_whose_turn_it_is(self):
        works = Works(read("cells 1\nhand\nload a 0\nsay 1\nload a 0\nhand\nload a 0\nsay 1"))
        works.turn(1)
        self.assertEqual((works.said(0), works.said(1)), ([], [1]))

    def test_go(self):
        self.assertEqual(works_of(["go 2", "say 1", "say 2", "go 5", "say 3"]).said(0), [2])
        self.assertEqual(works_of(["go 2", "say 1", "say 2", "go 5", "say 3"]).how(0), "ends")

    def test_unless_alike(self):
        self.assertEqual(works_of(["unless 1 = 1 go 2", "say 1", "say 2"]).said(0), [1, 2])
        self.assertEqual(works_of(["unless 1 = 2 go 2", "say 1", "say 2"]).said(0), [2])
        self.assertEqual(works_of(["unless 999+1 = 0 go 2", "say 1", "say 2"]).said(0), [1, 2])

    def test_unless_less(self):
        self.assertEqual(works_of(["unless 1 < 2 go 2", "say 1", "say 2"]).said(0), [1, 2])
        self.assertEqual(works_of(["unless 2 < 2 go 2", "say 1", "say 2"]).said(0), [2])
        self.assertEqual(works_of(["unless 3 < 2 go 2", "say 1", "say 2"]).said(0), [2])
        self.assertEqual(works_of(["unless 0-1 < 2 go 2", "say 1", "say 2"]).said(0), [2])
        self.assertEqual(works_of(["unless a < 0-1 go 2", "say 1", "say 2"]).said(0), [1, 2])

    def test_unless_to_its_end_and_back(self):
        works = works_of(["let a a+1", "say a", "unless a < 3 go 4", "go 0"])
        self.assertEqual((works.said(0), works.how(0)), ([1, 2, 3], "ends"))

    def test_go_to_a_touch(self):
        works = works_of(["load a 0", "let b b+1", "go 0"])
        for turn in range(5):
            self.assertEqual(works.how(0), "waits")
            self.assertEqual(works.boxes(0)[1], turn)
            works.turn(0)


class Lost(Refusing):
    def test_fewer_than_sixty_and_a_touch(self):
        self.assertEqual(works_of(59 * ["say 1"] + ["load a 0"]).how(0), "waits")
        looped = ["let a a+1", "unless a < 20 go 3", "go 0", "load b 0"]
        # Nineteen times three rows, two more: fifty-nine, then the touch.
        self.assertEqual(works_of(looped).how(0), "waits")

    def test_just_sixty_then_waits(self):
        rows = ["unless a = 19 go 3", "say 7", "go 5", "let a a+1", "go 0", "load b 0"]
        works = works_of(rows)
        # Nineteen times three rows, then unless, say and go: sixty.
        self.assertEqual((works.how(0), works.boxes(0)[0], works.said(0)), ("waits", 19, [7]))

    def test_just_sixty_then_ends(self):
        self.assertEqual(works_of(60 * ["say 1"]).how(0), "ends")
        self.assertEqual(works_of(60 * ["say 1"]).said(0), 60 * [1])
        rows = ["unless a = 19 go 3", "say 7", "go 5", "let a a+1", "go 0"]
        self.assertEqual((works_of(rows).how(0), works_of(rows).said(0)), ("ends", [7]))

    def test_one_more_is_lost(self):
        rows = ["unless a = 19 go 3", "say 7", "say 8", "let a a+1", "go 0"]
        works = works_of(rows)
        # Nineteen times three rows, then unless and two says: the sixty-first is not done.
        self.assertEqual((works.how(0), works.boxes(0)[0], works.said(0)), ("lost", 19, [7, 8]))

    def test_one_more_before_a_touch_is_lost(self):
        rows = ["unless a = 19 go 4", "say 7", "go 6", "say 9", "let a a+1", "go 0", "say 8", "load b 0"]
        works = works_of(rows)
        self.assertEqual((works.how(0), works.said(0)), ("lost", [7]))

    def test_going_round_is_lost(self):
        works = works_of(["let a a+1", "go 0"])
        self.assertEqual((works.how(0), works.boxes(0)[0]), ("lost", 30))
        works = works_of(["go 0"])
        self.assertEqual((works.how(0), works.said(0)), ("lost", []))

    def test_behind_a_touch_counted_anew(self):
        rows = ["load a 0"] + 59 * ["say 1"]
        works = works_of(rows)
        works.turn(0)
        self.assertEqual((works.how(0), len(works.said(0))), ("ends", 59))
        works = works_of(["say 1", "say 2", "load a 0", "let b b+1", "say b", "unless b = 20 go 3"])
        works.turn(0)
        # Three rows twenty times are sixty; behind them is the end.
        self.assertEqual((works.how(0), works.boxes(0)[1]), ("ends", 20))
        works = works_of(["say 1", "say 2", "load a 0", "let b b+1", "say b", "unless b = 20 go 3", "load c 0"])
        works.turn(0)
        self.assertEqual((works.how(0), works.boxes(0)[1]), ("waits", 20))
        works = works_of(["say 1", "say 2", "load a 0", "let b b+1", "say b", "unless b = 20 go 3", "say 5"])
        works.turn(0)
        self.assertEqual((works.how(0), works.said(0)), ("lost", [1, 2] + list(range(1, 21))))

    def test_lost_behind_a_touch(self):
        works = works_of(["store 0 3", "let a a+1", "say a", "go 1"])
        self.assertEqual(works.turn(0), ("store", 0, None, 3))
        self.assertEqual((works.how(0), works.said(0)), ("lost", list(range(1, 21))))
        self.assertEqual((works.counts(), len(works)), ([1], 1))

    def test_lost_is_over(self):
        works = works_of(["go 0"])
        self.refused(errors.Over, works.turn, 0)
        works = works_of(["load a 0", "go 1"])
        works.turn(0)
        self.refused(errors.Over, works.turn, 0)


class RefusedTurns(Refusing):
    def test_no_hand(self):
        works = Works(read(TWO_HANDS))
        for hand in BEYOND:
            for deed in [works.turn, works.boxes, works.said, works.how]:
                self.refused(errors.NoHand, deed, hand)

    def test_truths_are_no_hands(self):
        works = Works(read(TWO_HANDS))
        for hand in [True, False]:
            for deed in [works.turn, works.boxes, works.said, works.how]:
                self.refused(errors.NoHand, deed, hand)

    def test_no_hand_ahead_of_over(self):
        works = Works(read("cells 1\nhand\nhand"))
        for hand in BEYOND:
            self.refused(errors.NoHand, works.turn, hand)
        self.refused(errors.Over, works.turn, 0)
        self.refused(errors.Over, works.turn, 1)

    def test_eight_hands(self):
        works = Works(read("cells 1" + 8 * "\nhand\nload a 0"))
        self.assertEqual(works.turn(7), ("load", 0, 0, None))
        self.refused(errors.NoHand, works.turn, 8)
        self.assertEqual(works.counts(), [0, 0, 0, 0, 0, 0, 0, 1])

    def test_over_at_its_end(self):
        works = works_of(["load a 0"])
        works.turn(0)
        self.refused(errors.Over, works.turn, 0)

    def test_nothing_is_changed(self):
        works = Works(read(TWO_HANDS), [40, 0])
        for hand in [1, 1, 0]:
            works.turn(hand)
        before = told(works, 2)
        twin = works.twin()
        for hand in BEYOND:
            self.refused(errors.NoHand, works.turn, hand)
        self.refused(errors.Over, works.turn, 1)
        self.assertEqual(told(works, 2), before)
        self.assertEqual(works, twin)
        self.assertEqual(works.turn(0), ("store", 0, None, 6))


class Told(unittest.TestCase):
    def test_kinds(self):
        works = Works(read(TWO_HANDS))
        for thing in [works.cells(), works.boxes(0), works.said(0), works.counts()]:
            self.assertIs(type(thing), list)
        self.assertIs(type(works.how(0)), str)
        self.assertIs(type(len(works)), int)

    def test_lists_are_the_askers_own(self):
        works = Works(read(TWO_HANDS), [40, 0])
        works.turn(0)
        works.turn(0)
        before = told(works, 2)
        for tell in [works.cells, works.counts, lambda: works.boxes(0), lambda: works.said(0)]:
            thing = tell()
            thing[0] = 77
            thing.append(5)
        self.assertEqual(told(works, 2), before)
        self.assertEqual(works.turn(1), ("swap", 0, 41, 5))

    def test_what_was_told_stays(self):
        works = Works(read(TWO_HANDS), [40, 0])
        before = told(works, 2)
        kept = copy.deepcopy(before)
        for hand in [0, 1, 0, 1]:
            works.turn(hand)
        self.assertEqual(before, kept)
        self.assertNotEqual(told(works, 2), kept)

    def test_the_same_asked_again(self):
        works = Works(read(TWO_HANDS), [40, 0])
        works.turn(0)
        self.assertEqual(told(works, 2), told(works, 2))

    def test_the_program_stays_the_askers(self):
        program = read(TWO_HANDS)
        works = Works(program)
        like = Works(read(TWO_HANDS))
        program[1][0].clear()
        program[1][1][1] = ("load", "a", 1)
        program[1].append([])
        self.assertEqual(works, like)
        self.assertEqual(works.turn(0), ("load", 0, 0, None))
        self.assertEqual(works.turn(0), ("store", 0, None, 1))
        self.assertEqual(works.turn(1), ("swap", 0, 1, 5))
        self.assertEqual(works.counts(), [2, 1])
        self.assertEqual(works.twin(), works)

    def test_the_program_is_not_changed(self):
        program = read(TWO_HANDS)
        works = Works(program)
        for hand in [0, 1, 0, 1]:
            works.turn(hand)
        self.assertEqual(program, read(TWO_HANDS))

    def test_counts_and_len(self):
        works = Works(read("cells 1\nhand\nload a 0\ngo 0\nhand\nhand\nstore 0 1\ngo 0"))
        self.assertEqual((works.counts(), len(works)), ([0, 0, 0], 0))
        for turn, hand in enumerate([0, 2, 2, 0, 2]):
            works.turn(hand)
            self.assertEqual(len(works), turn + 1)
        self.assertEqual(works.counts(), [2, 0, 3])

    def test_three_hundred_touches(self):
        works = works_of(["load a 0", "store 0 a+7", "go 0"])
        for turn in range(300):
            works.turn(0)
        self.assertEqual((works.counts(), len(works), works.cells()[0]), ([300], 300, 50))


class Twins(Refusing):
    def test_all_is_alike(self):
        works = Works(read(TWO_HANDS), [40, 7])
        for hand in [0, 1, 0, 1]:
            twin = works.twin()
            self.assertIsInstance(twin, Works)
            self.assertIsNot(twin, works)
            self.assertEqual(told(twin, 2), told(works, 2))
            self.assertEqual(twin, works)
            works.turn(hand)
        self.assertEqual(told(works.twin(), 2), told(works, 2))

    def test_turns_in_either_change_nothing_of_the_other(self):
        works = Works(read(TWO_HANDS), [40, 7])
        works.turn(0)
        twin = works.twin()
        before = told(works, 2)
        self.assertEqual(twin.turn(0), ("store", 0, None, 41))
        self.assertEqual(twin.turn(1), ("swap", 0, 41, 5))
        self.assertEqual(told(works, 2), before)
        after = told(twin, 2)
        self.assertEqual(works.turn(1), ("swap", 0, 40, 5))
        self.assertEqual(works.turn(1), ("store", 1, None, 40))
        self.assertEqual(works.turn(0), ("store", 0, None, 41))
        self.assertEqual(told(twin, 2), after)

    def test_twins_of_twins(self):
        works = Works(read(TWO_HANDS), [40, 7])
        first = works.twin()
        first.turn(0)
        second = first.twin()
        second.turn(0)
        third = second.twin()
        self.assertEqual([len(one) for one in [works, first, second, third]], [0, 1, 2, 2])
        self.assertEqual(third, second)
        third.turn(1)
        self.assertEqual(second.counts(), [2, 0])
        self.assertEqual(third.counts(), [2, 1])
        self.assertEqual(works.cells(), [40, 7])

    def test_twins_of_hands_that_are_over(self):
        works = Works(read("cells 1\nhand\nsay 1\nhand\nsay 2\ngo 0"))
        twin = works.twin()
        self.assertEqual(twin, works)
        self.assertEqual((twin.how(0), twin.how(1)), ("ends", "lost"))
        self.assertEqual((twin.said(0), twin.said(1)), ([1], 30 * [2]))
        self.refused(errors.Over, twin.turn, 0)
        self.refused(errors.Over, twin.turn, 1)


class Alike(unittest.TestCase):
    def same(self, one, other):
        self.assertTrue(one == other)
        self.assertTrue(other == one)
        self.assertFalse(one != other)

    def unlike(self, one, other):
        self.assertFalse(one == other)
        self.assertFalse(other == one)
        self.assertTrue(one != other)

    def test_like_programs(self):
        self.same(Works(read(TWO_HANDS)), Works(read(TWO_HANDS)))
        self.same(Works(read(TWO_HANDS)), Works(read(TWO_HANDS), [0, 0]))
        works = Works(read(TWO_HANDS))
        self.same(works, works)

    def test_unlike_programs(self):
        one = "cells 1\nhand\nload a 0\nsay {}"
        self.unlike(Works(read(one.replace("{}", "1"))), Works(read(one.replace("{}", "2"))))
        self.unlike(Works(read("cells 1\nhand")), Works(read("cells 1\nhand\nhand")))
        self.unlike(Works(read("cells 1\nhand\nhand\nlet a 0")), Works(read("cells 1\nhand\nlet a 0\nhand")))
        self.unlike(Works(read("cells 1\nhand\nlet a 0")), Works(read("cells 1\nhand\nlet b 0")))

    def test_cells(self):
        self.unlike(Works(read(TWO_HANDS), [0, 1]), Works(read(TWO_HANDS)))

    def test_another_order_to_the_same(self):
        program = read("cells 2\nhand\nload a 0\nhand\nload b 1")
        one, other = Works(program), Works(program)
        one.turn(0)
        self.unlike(one, other)
        other.turn(1)
        self.unlike(one, other)
        one.turn(1)
        other.turn(0)
        self.same(one, other)

    def test_boxes(self):
        program = read("cells 2\nhand\nload a 0\nstore 0 1\nhand\nstore 0 1")
        one, other = Works(program), Works(program)
        for hand in [0, 1]:
            one.turn(hand)
        for hand in [1, 0]:
            other.turn(hand)
        self.assertEqual((one.cells(), one.counts()), (other.cells(), other.counts()))
        self.unlike(one, other)

    def test_said(self):
        program = read("cells 2\nhand\nload a 0\nsay a\nlet a 0\nstore 0 1\nhand\nstore 0 1")
        one, other = Works(program), Works(program)
        for hand in [0, 1]:
            one.turn(hand)
        for hand in [1, 0]:
            other.turn(hand)
        self.assertEqual((one.boxes(0), one.cells(), one.counts()), (other.boxes(0), other.cells(), other.counts()))
        self.unlike(one, other)

    def test_counts(self):
        program = read("cells 1\nhand\nstore 0 1\ngo 0")
        one, other = Works(program), Works(program)
        one.turn(0)
        other.turn(0)
        other.turn(0)
        self.assertEqual((one.cells(), one.boxes(0), one.how(0)), (other.cells(), other.boxes(0), other.how(0)))
        self.unlike(one, other)

    def forked(self, *tail):
        """Two works of one program that part by what the hand has read, and forget it."""
        rows = ["load a 0", "unless a = 0 go 4", "let a 0", tail[0], "let a 0"] + list(tail[1:])
        program = read("cells 1\nhand\n" + "\n".join(rows) + "\nhand\nstore 0 1")
        one, other = Works(program), Works(program)
        for hand in [0, 1]:
            one.turn(hand)
        for hand in [1, 0]:
            other.turn(hand)
        self.assertEqual((one.cells(), one.boxes(0), one.said(0), one.counts()),
                         (other.cells(), other.boxes(0), other.said(0), other.counts()))
        return (one, other)

    def test_rows_at_which_hands_wait(self):
        one, other = self.forked("load b 0", "load b 0")
        self.assertEqual((one.how(0), other.how(0)), ("waits", "waits"))
        self.unlike(one, other)

    def test_like_rows_at_which_hands_wait(self):
        one, other = self.forked("go 5", "load b 0")
        self.assertEqual((one.how(0), other.how(0)), ("waits", "waits"))
        self.same(one, other)

    def test_how(self):
        one, other = self.forked("go 3", "load b 0")
        self.assertEqual((one.how(0), other.how(0)), ("lost", "waits"))
        self.unlike(one, other)
        one, other = self.forked("go 5")
        self.assertEqual((one.how(0), other.how(0)), ("ends", "ends"))
        self.same(one, other)
        one, other = self.forked("go 3")
        self.assertEqual((one.how(0), other.how(0)), ("lost", "ends"))
        self.unlike(one, other)

    def test_rows_at_which_hands_are_lost_tell_nothing(self):
        one, other = self.forked("go 3", "go 5")
        self.assertEqual((one.how(0), other.how(0)), ("lost", "lost"))
        self.same(one, other)

    def test_to_things_that_are_no_works(self):
        works = Works(read("cells 1\nhand"))
        for thing in [None, 0, 1, "", "works", [], [0], (), {}, read("cells 1\nhand"), True, False, object(), Works]:
            self.unlike(works, thing)

    def test_asked_of_equality_nothing_is_changed(self):
        works = Works(read(TWO_HANDS))
        other = works.twin()
        other.turn(0)
        before = (told(works, 2), told(other, 2))
        self.unlike(works, other)
        self.unlike(works, other)
        self.assertEqual((told(works, 2), told(other, 2)), before)


if __name__ == "__main__":
    unittest.main()
