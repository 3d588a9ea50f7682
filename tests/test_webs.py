"""Points 2, 11, 12, 13 and 14: webs."""

import copy
import itertools
import random
import unittest

from fewnotes import errors
from fewnotes.programs import read
from fewnotes.webs import meet, must_ahead, names, same_run, touches_of, way, web_of

PROGRAM = "\n".join([
    "cells 2",
    "hand",
    "load a 0",
    "store 0 a+1",
    "hand",
    "hand",
    "swap b 0 9",
    "store 1 b",
])

LOAD, STORE, SWAP = "load", "store", "swap"

# Places 0 to 5: hand 0 stores to cell 0, hand 1 loads it, hand 2 loads it, and so on.
WEB = [(0, STORE, 0), (1, LOAD, 0), (2, LOAD, 0), (1, STORE, 1), (0, LOAD, 1), (2, SWAP, 0)]

NO_PLACES = [-1, -6, -7, 6, 7, 10 ** 29, -(10 ** 29)]


class Refusing(unittest.TestCase):
    def refused(self, error, deed, *given):
        with self.assertRaises(errors.NoteError, msg=repr(given)) as taken:
            deed(*given)
        self.assertIs(type(taken.exception), error, given)


def some_web(chance, length, hands, cells):
    """A web, as good as any."""
    return [(chance.randrange(hands), chance.choice([LOAD, STORE, SWAP]), chance.randrange(cells))
            for place in range(length)]


def straight(web, one, other):
    """Whether there is a step, said as the document says it."""
    hand, kind, cell = web[one]
    other_hand, other_kind, other_cell = web[other]
    meeting = hand != other_hand and cell == other_cell and {kind, other_kind} != {LOAD}
    return one < other and (hand == other_hand or meeting)


def all_ways(web, one, other):
    """Every way from the one to the other."""
    if one == other:
        return [[one]]
    return [[one] + rest for place in range(one + 1, other + 1) if straight(web, one, place)
            for rest in all_ways(web, place, other)]


def best_way(web, one, other):
    ways = all_ways(web, one, other) if one < other else []
    return min(ways, key=lambda places: (len(places), places)) if ways else None


def ways_from(web, start):
    """By place, the best way to it from the start, found from the front."""
    best = {start: [start]}
    for place in range(start + 1, len(web)):
        found = [best[earlier] + [place] for earlier in best if straight(web, earlier, place)]
        if found:
            best[place] = min(found, key=lambda places: (len(places), places))
    return best


class Runs(Refusing):
    def setUp(self):
        self.program = read(PROGRAM)

    def test_web(self):
        self.assertEqual(web_of(self.program, [0, 2, 0, 2]),
                         [(0, "load", 0), (2, "swap", 0), (0, "store", 0), (2, "store", 1)])
        self.assertEqual(web_of(self.program, [2, 0]), [(2, "swap", 0), (0, "load", 0)])

    def test_touches(self):
        self.assertEqual(touches_of(self.program, [0, 2, 0, 2], [40, 0]), [
            [("load", 0, 40, None), ("store", 0, None, 41)],
            [],
            [("swap", 0, 40, 9), ("store", 1, None, 40)],
        ])
        self.assertEqual(touches_of(self.program, [2, 0]), [[("load", 0, 9, None)], [], [("swap", 0, 0, 9)]])

    def test_none(self):
        self.assertEqual(web_of(self.program, []), [])
        self.assertEqual(touches_of(self.program, []), [[], [], []])

    def test_first_numbers_by_place_name_or_none(self):
        told = [[("load", 0, 5, None)], [], []]
        self.assertEqual(touches_of(self.program, [0], [5, 6]), told)
        self.assertEqual(touches_of(self.program, [0], cells=[5, 6]), told)
        self.assertEqual(touches_of(self.program, [0], None), [[("load", 0, 0, None)], [], []])
        self.assertEqual(touches_of(self.program, [0], cells=None), [[("load", 0, 0, None)], [], []])
        for cells in [[5, 6], None]:
            self.assertEqual(web_of(self.program, [0], cells), [(0, "load", 0)])
            self.assertEqual(web_of(self.program, [0], cells=cells), [(0, "load", 0)])

    def test_first_numbers_lead_the_run(self):
        program = read("cells 2\nhand\nload a 0\nunless a = 1 go 3\nload b 1\nstore 0 2")
        self.assertEqual(web_of(program, [0, 0], [1, 0]), [(0, "load", 0), (0, "load", 1)])
        self.assertEqual(web_of(program, [0, 0], [3, 0]), [(0, "load", 0), (0, "store", 0)])

    def test_kinds(self):
        web = web_of(self.program, [0, 2])
        touches = touches_of(self.program, [0, 2])
        self.assertEqual([type(web)] + [type(touch) for touch in web], [list, tuple, tuple])
        self.assertEqual([type(touches)] + [type(one) for one in touches], 4 * [list])
        self.assertIs(type(touches[0][0]), tuple)

    def test_refused_by_the_first_turn_that_is(self):
        for deed in [web_of, touches_of]:
            for order, error in [([1], errors.Over), ([3], errors.NoHand), ([-1], errors.NoHand),
                                 ([0, 1, 3], errors.Over), ([0, 3, 1], errors.NoHand), ([0, 0, 0], errors.Over),
                                 ([0, 0, 0, -1], errors.Over), ([0, 0, -1, 0], errors.NoHand),
                                 ([10 ** 29], errors.NoHand), ([2, 0, 2, 2, 5], errors.Over)]:
                self.refused(error, deed, self.program, order)

    def test_no_number_ahead_of_turns(self):
        for deed in [web_of, touches_of]:
            for cells in [[], [0], [0, 0, 0], [0, -1], [1000, 0]]:
                for order in [[], [0], [1], [9], [-1]]:
                    self.refused(errors.NoNumber, deed, self.program, order, cells)

    def test_nothing_is_changed(self):
        order, cells = [0, 2, 0, 2], [40, 0]
        for deed in [web_of, touches_of]:
            deed(self.program, order, cells)
            self.assertEqual((self.program, order, cells), (read(PROGRAM), [0, 2, 0, 2], [40, 0]))
            with self.assertRaises(errors.Over):
                deed(self.program, order + [0], cells)
            self.assertEqual((self.program, order, cells), (read(PROGRAM), [0, 2, 0, 2], [40, 0]))

    def test_told_anew_each_time(self):
        web = web_of(self.program, [0, 2])
        web.pop()
        self.assertEqual(web_of(self.program, [0, 2]), [(0, "load", 0), (2, "swap", 0)])
        touches = touches_of(self.program, [0, 2])
        touches[0].append("more")
        self.assertEqual(touches[1], [])
        touches[1].append("more")
        touches.pop()
        self.assertEqual(touches_of(self.program, [0, 2]), [[("load", 0, 0, None)], [], [("swap", 0, 0, 9)]])

    def test_three_hundred_touches(self):
        program = read("cells 1" + 3 * "\nhand\nload a 0\nstore 0 a+1\ngo 0")
        order = 50 * [0, 0, 1, 1, 2, 2]
        web = web_of(program, order)
        self.assertEqual(len(web), 300)
        self.assertEqual([touch[0] for touch in web], order)
        self.assertEqual(web[298:], [(2, "load", 0), (2, "store", 0)])
        self.assertEqual([len(touches) for touches in touches_of(program, order)], [100, 100, 100])
        self.assertEqual(touches_of(program, order)[2][-1], ("store", 0, None, 150))


class Names(unittest.TestCase):
    def test_each_place(self):
        self.assertEqual(names(WEB), [(0, 0), (1, 0), (2, 0), (1, 1), (0, 1), (2, 1)])
        self.assertEqual(names([(7, LOAD, 0), (7, LOAD, 0), (3, STORE, 1), (7, SWAP, 2)]),
                         [(7, 0), (7, 1), (3, 0), (7, 2)])

    def test_none(self):
        self.assertEqual(names([]), [])

    def test_told_anew(self):
        web = list(WEB)
        told = names(web)
        kept = list(told)
        self.assertEqual([type(told)] + [type(name) for name in told], [list] + 6 * [tuple])
        web.pop()
        self.assertEqual(told, kept)
        told.clear()
        self.assertEqual(names(WEB), kept)

    def test_three_hundred(self):
        self.assertEqual(names(150 * [(0, LOAD, 0), (1, LOAD, 0)]), [(k % 2, k // 2) for k in range(300)])


class Meet(Refusing):
    def test_every_two_kinds(self):
        for one, other in itertools.product([LOAD, STORE, SWAP], repeat=2):
            for hand, cell in itertools.product([0, 1], repeat=2):
                web = [(0, one, 0), (hand, other, cell)]
                due = hand == 1 and cell == 0 and not (one == LOAD and other == LOAD)
                self.assertIs(meet(web, 0, 1), due, web)
                self.assertIs(meet(web, 1, 0), due, web)

    def test_either_way_about(self):
        for one, other in itertools.product(range(6), repeat=2):
            self.assertIs(meet(WEB, one, other), meet(WEB, other, one))
        self.assertTrue(meet(WEB, 0, 5))
        self.assertTrue(meet(WEB, 5, 1))
        self.assertFalse(meet(WEB, 0, 3))
        self.assertFalse(meet(WEB, 1, 2))

    def test_a_place_and_itself(self):
        for place in range(6):
            self.assertIs(meet(WEB, place, place), False)

    def test_no_places(self):
        for place in NO_PLACES:
            self.refused(errors.NoPlace, meet, WEB, place, 0)
            self.refused(errors.NoPlace, meet, WEB, 0, place)
            self.refused(errors.NoPlace, meet, WEB, place, place)
        self.refused(errors.NoPlace, meet, [], 0, 0)
        self.refused(errors.NoPlace, meet, [(0, LOAD, 0)], 0, 1)

    def test_truths_are_no_places(self):
        for deed in [meet, must_ahead, way]:
            self.refused(errors.NoPlace, deed, WEB, True, 0)
            self.refused(errors.NoPlace, deed, WEB, 0, False)


class Ahead(Refusing):
    def test_ordinary(self):
        self.assertIs(must_ahead(WEB, 0, 1), True)
        self.assertIs(must_ahead(WEB, 0, 4), True)
        self.assertIs(must_ahead(WEB, 1, 2), False)
        self.assertIs(must_ahead(WEB, 1, 4), True)
        self.assertIs(must_ahead(WEB, 2, 4), False)
        self.assertIs(must_ahead(WEB, 3, 5), False)
        self.assertIs(must_ahead(WEB, 4, 5), False)

    def test_either_way_about_and_itself(self):
        for one, other in itertools.product(range(6), repeat=2):
            due = best_way(WEB, one, other) is not None
            self.assertIs(must_ahead(WEB, one, other), due, (one, other))
            if one >= other:
                self.assertIs(must_ahead(WEB, one, other), False)
                self.assertIsNone(way(WEB, one, other))

    def test_no_places(self):
        for deed in [must_ahead, way]:
            for place in NO_PLACES:
                self.refused(errors.NoPlace, deed, WEB, place, 0)
                self.refused(errors.NoPlace, deed, WEB, 0, place)
                self.refused(errors.NoPlace, deed, WEB, 5, place)
                self.refused(errors.NoPlace, deed, WEB, place, 5)
                self.refused(errors.NoPlace, deed, WEB, place, place)
            self.refused(errors.NoPlace, deed, [], 0, 0)
            self.refused(errors.NoPlace, deed, [], 0, 1)

    def test_ways(self):
        self.assertEqual(way(WEB, 0, 1), [0, 1])
        self.assertEqual(way(WEB, 0, 4), [0, 4])
        self.assertEqual(way(WEB, 0, 3), [0, 1, 3])
        self.assertEqual(way(WEB, 0, 5), [0, 5])
        self.assertEqual(way(WEB, 1, 4), [1, 3, 4])
        self.assertEqual(way(WEB, 1, 5), [1, 5])
        self.assertIsNone(way(WEB, 2, 4))
        self.assertIs(type(way(WEB, 0, 3)), list)

    def test_a_later_one_of_the_same_hand_is_one_step(self):
        web = [(0, LOAD, 0), (0, LOAD, 1), (0, LOAD, 2), (0, LOAD, 3)]
        self.assertEqual(way(web, 0, 3), [0, 3])
        self.assertEqual(way(web, 1, 3), [1, 3])

    def test_a_later_one_that_it_meets_is_one_step(self):
        web = [(0, STORE, 0), (1, STORE, 0), (2, STORE, 0), (3, LOAD, 0)]
        self.assertEqual(way(web, 0, 3), [0, 3])
        self.assertEqual(way(web, 0, 2), [0, 2])

    def test_loads_are_no_step(self):
        web = [(0, LOAD, 0), (1, LOAD, 0), (2, LOAD, 0)]
        self.assertIsNone(way(web, 0, 2))
        self.assertIs(must_ahead(web, 0, 1), False)

    def test_the_fewest_go_ahead_of_the_first(self):
        # By 1 there is a way of four steps, by 4 one of two.
        web = [(0, STORE, 0), (1, LOAD, 0), (1, STORE, 1), (2, LOAD, 1), (0, STORE, 2), (2, LOAD, 2)]
        self.assertEqual(way(web, 0, 5), [0, 4, 5])

    def test_of_the_fewest_the_first(self):
        # From 0 over 1, over 2 and over 3 it is two steps each.
        web = [(0, LOAD, 5), (0, STORE, 2), (0, STORE, 1), (0, STORE, 0), (1, LOAD, 0), (1, LOAD, 1), (1, LOAD, 2)]
        self.assertEqual(way(web, 0, 6), [0, 1, 6])
        self.assertEqual(way(web, 0, 5), [0, 2, 5])
        self.assertEqual(way(web, 0, 4), [0, 3, 4])
        web = [(0, STORE, 0), (1, LOAD, 0), (2, LOAD, 0), (2, STORE, 1), (1, STORE, 1), (3, LOAD, 1)]
        self.assertEqual(way(web, 0, 5), [0, 1, 4, 5])
        web = [(0, STORE, 0), (1, LOAD, 0), (2, LOAD, 0), (2, STORE, 1), (1, STORE, 3), (3, LOAD, 1)]
        self.assertEqual(way(web, 0, 5), [0, 2, 3, 5])

    def test_against_all_ways(self):
        chance = random.Random(5)
        for turn in range(120):
            web = some_web(chance, chance.randrange(2, 10), chance.randrange(1, 5), chance.randrange(1, 5))
            for one, other in itertools.product(range(len(web)), repeat=2):
                due = best_way(web, one, other)
                self.assertEqual(way(web, one, other), due, (web, one, other))
                self.assertIs(must_ahead(web, one, other), due is not None, (web, one, other))

    def test_nothing_is_changed_and_told_anew(self):
        web = list(WEB)
        places = way(web, 0, 3)
        kept = list(places)
        self.assertEqual(web, WEB)
        places.append(9)
        self.assertEqual(way(web, 0, 3), kept)
        told = way(web, 0, 3)
        web[1] = (1, LOAD, 9)
        self.assertEqual(told, kept)
        self.assertIsNone(way(web, 0, 3))
        self.assertIs(must_ahead(web, 0, 3), False)
        self.assertIs(meet(web, 0, 1), False)

    def test_three_hundred_touches(self):
        web = some_web(random.Random(7), 300, 8, 20)
        for one in (0, 150, 298):
            due = ways_from(web, one)
            for other in list(range(one + 1, 300, 7)) + [299]:
                self.assertEqual(way(web, one, other), due.get(other), (one, other))
                self.assertIs(must_ahead(web, one, other), other in due, (one, other))

    def test_three_hundred_touches_of_two_hands_that_never_meet(self):
        web = 150 * [(0, LOAD, 0), (1, LOAD, 0)]
        self.assertIs(must_ahead(web, 0, 299), False)
        self.assertEqual(way(web, 1, 299), [1, 299])
        self.assertIsNone(way(web, 298, 299))


class SameRun(Refusing):
    def test_the_webs_own_order(self):
        self.assertIs(same_run(WEB, [0, 1, 2, 3, 4, 5]), True)
        self.assertIs(same_run([], []), True)
        self.assertIs(same_run([(0, LOAD, 0)], [0]), True)

    def test_others(self):
        self.assertIs(same_run(WEB, [0, 2, 1, 3, 4, 5]), True)
        self.assertIs(same_run(WEB, [0, 1, 2, 5, 3, 4]), True)
        self.assertIs(same_run(WEB, [1, 0, 2, 3, 4, 5]), False)
        self.assertIs(same_run(WEB, [0, 1, 2, 4, 3, 5]), False)
        self.assertIs(same_run(WEB, [0, 1, 3, 4, 5, 2]), False)
        self.assertIs(same_run(WEB, [5, 4, 3, 2, 1, 0]), False)

    def test_hands_keep_their_own_order(self):
        web = [(0, LOAD, 0), (0, LOAD, 1), (1, LOAD, 0)]
        self.assertIs(same_run(web, [2, 0, 1]), True)
        self.assertIs(same_run(web, [1, 0, 2]), False)
        self.assertIs(same_run(web, [1, 2, 0]), False)

    def test_every_order_against_all_that_must_come_ahead(self):
        chance = random.Random(6)
        for turn in range(30):
            web = some_web(chance, 5, 3, 2)
            ahead = [(one, other) for one, other in itertools.product(range(5), repeat=2)
                     if best_way(web, one, other) is not None]
            for order in itertools.permutations(range(5)):
                due = all(order.index(one) < order.index(other) for one, other in ahead)
                self.assertIs(same_run(web, list(order)), due, (web, order))

    def test_no_orders(self):
        for order in [[], [0, 1, 2, 3, 4], [0, 1, 2, 3, 4, 4], [0, 1, 2, 3, 4, 5, 5], [0, 1, 2, 3, 4, 5, 6],
                      [0, 0, 1, 2, 3, 4, 5], [0, 1, 2, 3, 4, 6], [-1, 0, 1, 2, 3, 4], [0, 1, 2, 3, 4, -1],
                      [1, 2, 3, 4, 5, 6], [0, 1, 2, 3, 4, 10 ** 29], [5, 5, 5, 5, 5, 5], 3000 * [0],
                      [1, 0, 2, 3, 4], [1, 0, 2, 3, 4, 4]]:
            self.refused(errors.NoOrder, same_run, WEB, order)
        self.refused(errors.NoOrder, same_run, [], [0])
        self.refused(errors.NoOrder, same_run, [], [-1])
        self.refused(errors.NoOrder, same_run, [(0, LOAD, 0)], [])
        self.refused(errors.NoOrder, same_run, [(0, LOAD, 0)], [1])

    def test_truths_are_no_places(self):
        self.refused(errors.NoOrder, same_run, [(0, LOAD, 0), (0, LOAD, 0)], [0, True])
        self.refused(errors.NoOrder, same_run, [(0, LOAD, 0), (0, LOAD, 0)], [False, 1])

    def test_a_tuple_is_no_list(self):
        self.refused(errors.NoOrder, same_run, [(0, LOAD, 0), (0, LOAD, 0)], (0, 1))

    def test_nothing_is_changed(self):
        web, order = copy.deepcopy(WEB), [0, 2, 1, 3, 5, 4]
        self.assertIs(same_run(web, order), True)
        self.assertEqual((web, order), (WEB, [0, 2, 1, 3, 5, 4]))
        self.assertIs(same_run(web, order), True)

    def test_three_hundred_touches(self):
        web = 100 * [(0, STORE, 0), (1, STORE, 1), (2, LOAD, 2)]
        by_hand = [k for hand in (2, 1, 0) for k in range(hand, 300, 3)]
        self.assertIs(same_run(web, list(range(300))), True)
        self.assertIs(same_run(web, by_hand), True)
        self.assertIs(same_run(web, by_hand[:298] + [by_hand[299], by_hand[298]]), False)
        self.assertIs(same_run(web[:299] + [(2, LOAD, 0)], by_hand), False)


if __name__ == "__main__":
    unittest.main()
