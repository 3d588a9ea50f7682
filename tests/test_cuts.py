"""Points 2, 3 and 21 to 25: cuts, orders and rings of records."""

import copy
import itertools
import math
import random
import unittest

from fewnotes import errors
from fewnotes.cuts import (first_order, greatest_cut, how_many_cuts, how_many_orders, is_cut, keeps, least_cut, ring,
                           ring_shows)

# (0, 1) ahead of (1, 0), (1, 1) ahead of (2, 0), (2, 0) ahead of (0, 2); one note twice.
RECORD = ([3, 2, 2], [(0, 1, 1, 0), (2, 0, 0, 2), (1, 1, 2, 0), (0, 1, 1, 0)])
ROUND = ([2, 2], [(0, 1, 1, 0), (1, 1, 0, 0)])

# By each of the faults, with counts [3, 2, 0].
NO_NOTES = [
    (3, 0, 1, 0), (0, 0, 3, 0), (-1, 0, 1, 0), (0, 0, -1, 0), (0, 0, -2, 0), (8, 0, 1, 0), (10 ** 29, 0, 1, 0),
    (0, 0, 10 ** 29, 0), (0, 0, -10 ** 29, 0),
    (0, 0, 0, 1), (0, 1, 0, 0), (1, 0, 1, 0),
    (0, -1, 1, 0), (0, 0, 1, -1), (0, 3, 1, 0), (0, 4, 1, 0), (0, 0, 1, 2), (0, 0, 1, 3), (1, 2, 0, 0), (1, 0, 0, 3),
    (2, 0, 0, 0), (0, 0, 2, 0), (0, 10 ** 29, 1, 0), (0, 0, 1, 10 ** 29), (0, -10 ** 29, 1, 0),
]


class Refusing(unittest.TestCase):
    def refused(self, error, deed, *given):
        with self.assertRaises(errors.NoteError, msg=repr(given)) as taken:
            deed(*given)
        self.assertIs(type(taken.exception), error, given)


def some_record(chance, hands, most, notes, spans=range(1, 8)):
    """A record whatever its notes say, at times with one of them twice; spans tells how far on its hands they lead."""
    counts = [chance.randrange(most + 1) for hand in range(hands)]
    touches = [(hand, k) for hand, count in enumerate(counts) for k in range(count)]
    pairs = [one + other for one in touches for other in touches if (other[0] - one[0]) % hands in spans]
    return counts, [chance.choice(pairs) for note in range(notes if pairs else 0)]


def lists_of(counts):
    return [list(some) for some in itertools.product(*[range(count + 1) for count in counts])]


def due_cut(record, some):
    return all(k < some[hand] for hand, k, other, m in record[1] if m < some[other])


def orders_of(counts):
    """All orders, first to last."""
    left = [hand for hand, count in enumerate(counts) for k in range(count)]
    return [list(order) for order in sorted(set(itertools.permutations(left)))]


def due_keeps(record, order):
    touches = [(hand, order[:place].count(hand)) for place, hand in enumerate(order)]
    return all(touches.index(note[:2]) < touches.index(note[2:]) for note in record[1])


def due_shows(record, some):
    if not some or not all(note in record[1] for note in some):
        return False
    return all(note[2] == some[(k + 1) % len(some)][0] and note[3] <= some[(k + 1) % len(some)][1]
               for k, note in enumerate(some))


def shortest_ring(record):
    """How many notes the shortest ring has, None of none: by trying all lists of up to so many as there are hands."""
    for length in range(1, len(record[0]) + 1):
        for some in itertools.product(sorted(set(record[1])), repeat=length):
            if due_shows(record, list(some)):
                return length
    return None


def come_to(record):
    """The cuts that can be come to."""
    told, left = [], [[0 for count in record[0]]]
    while left:
        cut = left.pop()
        if cut in told or not due_cut(record, cut) or any(k > count for k, count in zip(cut, record[0])):
            continue
        told.append(cut)
        left.extend(cut[:hand] + [cut[hand] + 1] + cut[hand + 1:] for hand in range(len(cut)))
    return told


class Cuts(Refusing):
    def test_some(self):
        for cut, due in [([0, 0, 0], True), ([1, 0, 0], True), ([2, 0, 0], True), ([3, 0, 0], False),
                         ([1, 1, 0], False), ([2, 1, 0], True), ([2, 2, 0], True), ([2, 1, 1], False),
                         ([2, 2, 1], True), ([3, 2, 1], True), ([3, 2, 2], True), ([2, 2, 2], True),
                         ([0, 0, 1], False), ([3, 2, 0], False), ([0, 0, 2], False)]:
            self.assertIs(is_cut(RECORD, cut), due, cut)

    def test_no_hand(self):
        self.assertIs(is_cut(([], []), []), True)
        self.refused(errors.NoCut, is_cut, ([], []), [0])

    def test_counts_of_nothing(self):
        self.assertIs(is_cut(([0, 0], []), [0, 0]), True)
        self.assertIs(is_cut(([0, 2], []), [0, 1]), True)
        self.refused(errors.NoCut, is_cut, ([0, 0], []), [0, 1])

    def test_eight_hands(self):
        record = (8 * [2], [(hand, 1, hand + 1, 0) for hand in range(7)])
        self.assertIs(is_cut(record, [2, 2, 2, 2, 1, 0, 0, 0]), True)
        self.assertIs(is_cut(record, [2, 2, 2, 1, 1, 0, 0, 0]), False)
        self.refused(errors.NoCut, is_cut, record, 7 * [0])
        self.refused(errors.NoCut, is_cut, record, 9 * [0])

    def test_notes_that_go_round(self):
        for cut, due in [([0, 0], True), ([2, 2], True), ([1, 0], False), ([0, 1], False), ([2, 1], False),
                         ([1, 2], False), ([2, 0], False)]:
            self.assertIs(is_cut(ROUND, cut), due, cut)

    def test_no_cut(self):
        for deed in (is_cut, least_cut, greatest_cut):
            for cut in [[], [0], [0, 0], [0, 0, 0, 0], [3, 2, 2, 0], 3000 * [0], [-1, 0, 0], [0, -1, 0], [0, 0, -1],
                        [4, 0, 0], [0, 3, 0], [0, 0, 3], [10 ** 29, 0, 0], [0, 0, -10 ** 29], [0, 3, -1]]:
                self.refused(errors.NoCut, deed, RECORD, cut)

    def test_truths_and_tuples_are_no_cuts(self):
        for deed in (is_cut, least_cut, greatest_cut):
            self.refused(errors.NoCut, deed, RECORD, [True, 0, 0])
            self.refused(errors.NoCut, deed, RECORD, (0, 0, 0))

    def test_against_the_definition(self):
        chance = random.Random(1)
        for turn in range(200):
            record = some_record(chance, chance.randrange(4), 3, chance.randrange(5))
            for some in lists_of(record[0]):
                self.assertIs(is_cut(record, some), due_cut(record, some), (record, some))

    def test_three_hundred_touches(self):
        record = ([150, 150], [(0, k, 1, k) for k in range(150)])
        self.assertIs(is_cut(record, [150, 150]), True)
        self.assertIs(is_cut(record, [149, 149]), True)
        self.assertIs(is_cut(record, [149, 150]), False)


class LeastAndGreatest(Refusing):
    def test_of_a_cut_it_is_the_cut(self):
        for cut in [[0, 0, 0], [2, 1, 0], [2, 2, 1], [3, 2, 2]]:
            self.assertEqual(least_cut(RECORD, cut), cut)
            self.assertEqual(greatest_cut(RECORD, cut), cut)

    def test_of_others(self):
        for some, least, greatest in [([0, 1, 0], [2, 1, 0], [0, 0, 0]), ([1, 2, 0], [2, 2, 0], [1, 0, 0]),
                                      ([0, 0, 1], [2, 2, 1], [0, 0, 0]), ([3, 0, 0], [3, 2, 1], [2, 0, 0]),
                                      ([3, 1, 2], [3, 2, 2], [2, 1, 0]), ([3, 2, 0], [3, 2, 1], [2, 2, 0]),
                                      ([0, 2, 2], [2, 2, 2], [0, 0, 0])]:
            self.assertEqual(least_cut(RECORD, some), least, some)
            self.assertEqual(greatest_cut(RECORD, some), greatest, some)

    def test_notes_that_go_round(self):
        for some in [[1, 0], [0, 1], [2, 1], [1, 1]]:
            self.assertEqual(least_cut(ROUND, some), [2, 2])
            self.assertEqual(greatest_cut(ROUND, some), [0, 0])
        self.assertEqual(greatest_cut(ROUND, [2, 2]), [2, 2])
        self.assertEqual(least_cut(ROUND, [0, 0]), [0, 0])

    def test_no_hand_and_counts_of_nothing(self):
        for deed in (least_cut, greatest_cut):
            self.assertEqual(deed(([], []), []), [])
            self.assertEqual(deed(([0, 0], []), [0, 0]), [0, 0])

    def test_eight_hands(self):
        record = (8 * [2], [(hand, 1, hand + 1, 0) for hand in range(7)])
        self.assertEqual(least_cut(record, [0, 0, 0, 0, 0, 0, 0, 1]), [2, 2, 2, 2, 2, 2, 2, 1])
        self.assertEqual(greatest_cut(record, [2, 1, 2, 2, 2, 2, 2, 2]), [2, 1, 0, 0, 0, 0, 0, 0])
        turned = (8 * [2], [(hand + 1, 1, hand, 0) for hand in range(7)])
        self.assertEqual(least_cut(turned, [1, 0, 0, 0, 0, 0, 0, 0]), [1, 2, 2, 2, 2, 2, 2, 2])
        self.assertEqual(greatest_cut(turned, [2, 2, 2, 2, 2, 2, 1, 2]), [0, 0, 0, 0, 0, 0, 1, 2])

    def test_several_notes_to_one_touch_and_from_one(self):
        record = ([3, 3, 3], [(0, 0, 2, 0), (0, 2, 2, 0), (0, 1, 2, 0), (1, 1, 2, 0)])
        self.assertEqual(least_cut(record, [0, 0, 1]), [3, 2, 1])
        self.assertEqual(greatest_cut(record, [3, 1, 3]), [3, 1, 0])
        record = ([3, 3, 3], [(0, 0, 1, 1), (0, 0, 1, 0), (0, 0, 1, 2), (0, 0, 2, 1)])
        self.assertEqual(greatest_cut(record, [0, 3, 3]), [0, 0, 1])

    def test_against_the_definition(self):
        chance = random.Random(2)
        for turn in range(150):
            record = some_record(chance, chance.randrange(4), 3, chance.randrange(6))
            cuts = [cut for cut in lists_of(record[0]) if due_cut(record, cut)]
            for some in lists_of(record[0]):
                above = [cut for cut in cuts if all(a >= b for a, b in zip(cut, some))]
                below = [cut for cut in cuts if all(a <= b for a, b in zip(cut, some))]
                self.assertEqual(least_cut(record, some), [min(each) for each in zip(*above)], (record, some))
                self.assertEqual(greatest_cut(record, some), [max(each) for each in zip(*below)], (record, some))

    def test_three_hundred_touches(self):
        chain = [(k % 2, k // 2, (k + 1) % 2, (k + 1) // 2) for k in range(299)]
        record = ([150, 150], list(reversed(chain)))
        self.assertEqual(least_cut(record, [0, 150]), [150, 150])
        self.assertEqual(least_cut(record, [70, 60]), [70, 69])
        self.assertEqual(greatest_cut(record, [0, 150]), [0, 0])
        self.assertEqual(greatest_cut(record, [70, 150]), [70, 70])
        self.assertEqual(greatest_cut((record[0], chain), [70, 150]), [70, 70])
        self.assertEqual(least_cut((record[0], chain), [0, 150]), [150, 150])

    def test_nothing_is_changed_and_told_anew(self):
        for deed in (least_cut, greatest_cut):
            for some in ([3, 1, 2], [2, 1, 0], [0, 0, 0]):
                record, handed = copy.deepcopy(RECORD), list(some)
                told = deed(record, handed)
                kept = list(told)
                self.assertEqual((record, handed), (RECORD, some))
                told.append(7)
                self.assertEqual((record, handed), (RECORD, some))
                told = deed(record, handed)
                self.assertEqual(told, kept)
                handed.clear()
                record[0].clear()
                self.assertEqual(told, kept)
                self.assertIs(type(told), list)


class Orders(Refusing):
    def test_some(self):
        for order, due in [([0, 0, 1, 1, 2, 2, 0], True), ([0, 0, 1, 1, 2, 0, 2], True),
                           ([0, 0, 0, 1, 1, 2, 2], False), ([0, 1, 0, 1, 2, 2, 0], False),
                           ([0, 0, 1, 2, 1, 2, 0], False), ([2, 2, 1, 1, 0, 0, 0], False)]:
            self.assertIs(keeps(RECORD, order), due, order)

    def test_no_notes(self):
        for order in itertools.permutations([0, 0, 1, 2]):
            self.assertIs(keeps(([2, 1, 1], []), list(order)), True)

    def test_no_hand_and_counts_of_nothing(self):
        self.assertIs(keeps(([], []), []), True)
        self.assertIs(keeps(([0, 0], []), []), True)
        self.assertIs(keeps(([0, 2], []), [1, 1]), True)
        self.refused(errors.NoOrder, keeps, ([], []), [0])
        self.refused(errors.NoOrder, keeps, ([0], []), [0])

    def test_no_order(self):
        good = [0, 0, 1, 1, 2, 2, 0]
        for order in [[], good[:-1], good + [0], good + [1], good + [3], [0, 0, 1, 1, 2, 2, 2], [0, 0, 1, 1, 2, 2, 3],
                      [0, 0, 1, 1, 2, 2, -1], [0, 0, 1, 1, 2, -1, 0], good + [-1], [0, 0, 1, 1, 2, 2, 10 ** 29],
                      [0, 0, 1, 1, 2, 2, -10 ** 29], 3000 * [0], [1, 0, 0, 1, 2, 2], [0, 0, 0, 1, 1, 2]]:
            self.refused(errors.NoOrder, keeps, RECORD, order)
        self.refused(errors.NoOrder, keeps, ([1, 0], []), [1])

    def test_truths_and_tuples_are_no_orders(self):
        self.refused(errors.NoOrder, keeps, ([1, 1], []), [0, True])
        self.refused(errors.NoOrder, keeps, ([1, 1], []), (0, 1))

    def test_notes_that_go_round_are_kept_by_none(self):
        for order in orders_of([2, 2]):
            self.assertIs(keeps(ROUND, order), False)
        self.assertIsNone(first_order(ROUND))

    def test_first(self):
        self.assertEqual(first_order(RECORD), [0, 0, 1, 1, 2, 0, 2])
        self.assertEqual(first_order(([2, 1], [])), [0, 0, 1])
        self.assertEqual(first_order(([2, 1], [(1, 0, 0, 1)])), [0, 1, 0])
        self.assertEqual(first_order(([1, 1, 1], [(2, 0, 1, 0)])), [0, 2, 1])
        self.assertEqual(first_order(([1, 1, 1], [(1, 0, 0, 0), (2, 0, 1, 0)])), [2, 1, 0])
        self.assertIs(type(first_order(RECORD)), list)

    def test_first_of_nothing(self):
        self.assertEqual(first_order(([], [])), [])
        self.assertEqual(first_order(([0], [])), [])
        self.assertEqual(first_order(([0, 0, 0], [])), [])
        self.assertEqual(first_order(([0, 2, 0, 1], [])), [1, 1, 3])

    def test_none_behind_some_that_are_free(self):
        self.assertIsNone(first_order(([3, 3], [(0, 2, 1, 1), (1, 1, 0, 2)])))
        self.assertIsNone(first_order(([3, 3, 1], [(0, 2, 1, 1), (1, 2, 0, 1)])))

    def test_against_the_definition(self):
        chance = random.Random(3)
        seen = []
        for turn in range(250):
            record = some_record(chance, chance.randrange(1, 4), 2, chance.randrange(5))
            kept = [order for order in orders_of(record[0]) if due_keeps(record, order)]
            for order in orders_of(record[0]):
                self.assertIs(keeps(record, order), order in kept, (record, order))
            seen.append(bool(kept))
            self.assertEqual(first_order(record), kept[0] if kept else None, record)
        self.assertGreater(seen.count(True), 50)
        self.assertGreater(seen.count(False), 25)

    def test_three_hundred_touches(self):
        chain = [(k % 2, k // 2, (k + 1) % 2, (k + 1) // 2) for k in range(299)]
        record = ([150, 150], chain)
        self.assertEqual(first_order(record), 150 * [0, 1])
        self.assertIs(keeps(record, 150 * [0, 1]), True)
        self.assertIs(keeps(record, 149 * [0, 1] + [1, 0]), False)
        self.assertIsNone(first_order((record[0], chain + [(1, 149, 0, 0)])))
        self.assertEqual(first_order(([150, 150], [])), 150 * [0] + 150 * [1])

    def test_eight_hands(self):
        record = (8 * [1], [(hand + 1, 0, hand, 0) for hand in range(7)])
        self.assertEqual(first_order(record), [7, 6, 5, 4, 3, 2, 1, 0])
        self.assertIs(keeps(record, [7, 6, 5, 4, 3, 2, 1, 0]), True)
        self.assertIs(keeps(record, [7, 6, 5, 4, 3, 2, 0, 1]), False)

    def test_nothing_is_changed_and_told_anew(self):
        record, order = copy.deepcopy(RECORD), [0, 0, 1, 1, 2, 2, 0]
        self.assertIs(keeps(record, order), True)
        self.assertEqual((record, order), (RECORD, [0, 0, 1, 1, 2, 2, 0]))
        self.assertIs(keeps(record, order), True)
        told = first_order(record)
        kept = list(told)
        self.assertEqual(record, RECORD)
        told.clear()
        told = first_order(record)
        self.assertEqual(told, kept)
        record[1].clear()
        self.assertEqual(told, kept)
        self.assertEqual(first_order(record), [0, 0, 0, 1, 1, 2, 2])


class Rings(Refusing):
    def ring_of(self, record, length):
        told = ring(record)
        self.assertIs(type(told), list)
        self.assertTrue(due_shows(record, told), (record, told))
        self.assertIs(ring_shows(record, told), True)
        self.assertEqual(len(told), length, record)

    def test_none(self):
        self.assertIsNone(ring(RECORD))
        self.assertIsNone(ring(([], [])))
        self.assertIsNone(ring(([0, 0], [])))
        self.assertIsNone(ring(([2, 2], [])))
        self.assertIsNone(ring(([2, 2], [(0, 0, 1, 1)])))
        # Back to a later touch than the one that it began with.
        self.assertIsNone(ring(([2, 2], [(0, 0, 1, 0), (1, 0, 0, 1)])))
        self.assertIsNone(ring(([2, 2], [(0, 0, 1, 1), (1, 0, 0, 1)])))

    def test_two_notes_between_the_same_touches(self):
        self.ring_of(([1, 1], [(0, 0, 1, 0), (1, 0, 0, 0)]), 2)

    def test_two_notes_a_later_touch_ahead_of_an_earlier_one(self):
        self.ring_of(ROUND, 2)
        self.ring_of(([3, 1], [(0, 2, 1, 0), (1, 0, 0, 0)]), 2)
        self.ring_of(([3, 1], [(0, 1, 1, 0), (1, 0, 0, 1)]), 2)
        self.assertIsNone(ring(([3, 1], [(0, 1, 1, 0), (1, 0, 0, 2)])))

    def test_more(self):
        self.ring_of(([1, 1, 1], [(0, 0, 1, 0), (1, 0, 2, 0), (2, 0, 0, 0)]), 3)
        self.ring_of(([2, 2, 2], [(0, 1, 1, 0), (1, 1, 2, 0), (2, 1, 0, 0)]), 3)
        self.ring_of((8 * [1], [(hand, 0, (hand + 1) % 8, 0) for hand in range(8)]), 8)
        self.ring_of((8 * [2], [(hand, 1, (hand + 3) % 8, 0) for hand in range(8)]), 8)

    def test_as_few_as_any(self):
        three = [(0, 0, 1, 0), (1, 0, 2, 0), (2, 0, 0, 0)]
        for notes in itertools.permutations(three + [(2, 1, 3, 0), (3, 0, 2, 1)]):
            self.ring_of(([1, 1, 2, 1], list(notes)), 2)

    def test_few_notes_with_a_wider_gap_go_ahead_of_many(self):
        # To the earliest touch of hand 1 there are two notes, yet one leads there early enough.
        notes = [(0, 0, 2, 0), (2, 0, 1, 0), (0, 0, 1, 1), (1, 1, 0, 0)]
        self.ring_of(([1, 2, 1], notes), 2)
        # Here only the longer way is early enough.
        notes = [(0, 0, 2, 0), (2, 0, 1, 0), (0, 0, 1, 1), (1, 0, 0, 0)]
        self.ring_of(([1, 2, 1], notes), 3)

    def test_a_note_more_than_once(self):
        self.ring_of(([1, 1], [(0, 0, 1, 0), (0, 0, 1, 0), (1, 0, 0, 0), (1, 0, 0, 0)]), 2)

    def test_against_the_definition(self):
        chance = random.Random(4)
        lengths = []
        for turn in range(700):
            # Notes to the next hand alone make the longer rings.
            spans = chance.choice([[1], [1, 2, 3]])
            record = some_record(chance, chance.randrange(1, 5), 2, chance.randrange(8), spans)
            length = shortest_ring(record)
            lengths.append(length)
            if length is None:
                self.assertIsNone(ring(record), record)
                self.assertIsNotNone(first_order(record), record)
            else:
                self.ring_of(record, length)
                self.assertIsNone(first_order(record), record)
        for length in (None, 2, 3, 4):
            self.assertGreater(lengths.count(length), 3, length)

    def test_three_hundred_touches(self):
        chain = [(k % 2, k // 2, (k + 1) % 2, (k + 1) // 2) for k in range(299)]
        self.assertIsNone(ring(([150, 150], chain)))
        self.ring_of(([150, 150], chain + [(1, 149, 0, 0)]), 2)
        chance = random.Random(5)
        touches = [(k % 8, k // 8) for k in range(300)]
        notes = [touches[one] + touches[other] for one, other in itertools.combinations(range(300), 2)
                 if one % 8 != other % 8]
        counts = [38, 38, 38, 38, 37, 37, 37, 37]
        some = chance.sample(notes, 2990)
        self.assertIsNone(ring((counts, some)))
        back = [note[2:] + note[:2] for note in some[:5]]
        self.ring_of((counts, some + back), 2)

    def test_shows(self):
        record = ([2, 2, 2], [(0, 1, 1, 0), (1, 1, 2, 0), (2, 1, 0, 0), (2, 0, 1, 1), (0, 0, 2, 1)])
        three = [(0, 1, 1, 0), (1, 1, 2, 0), (2, 1, 0, 0)]
        for some, due in [(three, True), (three[1:] + three[:1], True), (three[2:] + three[:2], True),
                          (three + three, True), (list(reversed(three)), False), (three[:2], False),
                          (three[:1], False), ([three[0], three[0]], False), ([(1, 1, 2, 0), (2, 0, 1, 1)], True),
                          ([(2, 0, 1, 1), (1, 1, 2, 0)], True), (three + three[:1], False),
                          ([(0, 1, 1, 0), (1, 1, 2, 0), (2, 0, 1, 1), (1, 1, 2, 0), (2, 1, 0, 0)], True),
                          ([(0, 0, 2, 1), (2, 1, 0, 0)], True), ([(0, 0, 2, 1), (2, 0, 1, 1)], False)]:
            self.assertIs(ring_shows(record, some), due, some)

    def test_shows_none_of_the_empty_list(self):
        self.assertIs(ring_shows(RECORD, []), False)
        self.assertIs(ring_shows(ROUND, []), False)
        self.assertIs(ring_shows(([], []), []), False)

    def test_shows_none_of_notes_that_the_record_does_not_have(self):
        record = ([2, 2], [(0, 1, 1, 0)])
        for note in [(1, 1, 0, 0), (1, 0, 0, 0), (1, 0, 0, 1), (1, 9, 0, 0), (1, 1, 0, -1), (1, 10 ** 29, 0, 0),
                     (8, 0, 0, 0), (0, 1, 0, 0)]:
            self.assertIs(ring_shows(record, [(0, 1, 1, 0), note]), False)
            self.assertIs(ring_shows(record, [note, (0, 1, 1, 0)]), False)
            self.assertIs(ring_shows(record, [note]), False)
        self.assertIs(ring_shows(([], []), [(0, 0, 1, 0), (1, 0, 0, 0)]), False)
        # One hand with itself would be a ring by its numbers alone.
        self.assertIs(ring_shows(ROUND, [(0, 0, 0, 0)]), False)

    def test_shows_the_touches_count_not_the_hands_alone(self):
        record = ([3, 3], [(0, 1, 1, 1), (1, 0, 0, 0), (1, 1, 0, 1), (1, 2, 0, 2)])
        self.assertIs(ring_shows(record, [(0, 1, 1, 1), (1, 0, 0, 0)]), False)
        self.assertIs(ring_shows(record, [(0, 1, 1, 1), (1, 1, 0, 1)]), True)
        self.assertIs(ring_shows(record, [(0, 1, 1, 1), (1, 2, 0, 2)]), False)

    def test_shows_against_the_definition(self):
        chance = random.Random(6)
        told = []
        for turn in range(60):
            record = some_record(chance, 3, 2, 4)
            for length in range(4):
                for some in itertools.product(record[1], repeat=length):
                    told.append(ring_shows(record, list(some)))
                    self.assertIs(told[-1], due_shows(record, list(some)), (record, some))
        self.assertGreater(told.count(True), 50)

    def test_shows_three_thousand_notes(self):
        two = [(0, 1, 1, 0), (1, 1, 0, 0)]
        self.assertIs(ring_shows(ROUND, 1500 * two), True)
        self.assertIs(ring_shows(ROUND, 1499 * two + [two[0]]), False)

    def test_truths_and_other_forms_are_no_notes_of_it(self):
        record = ([1, 1], [(0, 0, 1, 0), (1, 0, 0, 0)])
        self.assertIs(ring_shows(record, [(0, 0, True, 0), (1, 0, 0, 0)]), False)
        self.assertIs(ring_shows(record, [[0, 0, 1, 0], (1, 0, 0, 0)]), False)

    def test_nothing_is_changed_and_told_anew(self):
        record = copy.deepcopy(ROUND)
        told = ring(record)
        kept = list(told)
        self.assertEqual(record, ROUND)
        told.clear()
        told = ring(record)
        self.assertEqual(told, kept)
        self.assertEqual(record, ROUND)
        some = list(told)
        self.assertIs(ring_shows(record, some), True)
        self.assertEqual((record, some), (ROUND, kept))
        record[1].clear()
        self.assertEqual(told, kept)
        self.assertIs(ring_shows(record, some), False)


class HowMany(Refusing):
    def many(self, record, cuts, orders):
        self.assertEqual(how_many_cuts(record), cuts, record)
        self.assertEqual(how_many_orders(record), orders, record)

    def test_some(self):
        self.many(RECORD, 9, 2)
        self.many(([2, 1], []), 6, 3)
        self.many(([1, 1], [(0, 0, 1, 0)]), 3, 1)
        self.many(([3, 3], []), 16, 20)

    def test_of_nothing(self):
        self.many(([], []), 1, 1)
        self.many(([0], []), 1, 1)
        self.many(([0, 0, 0], []), 1, 1)
        self.many(([5], []), 6, 1)

    def test_notes_that_go_round(self):
        self.many(ROUND, 1, 0)
        # The cut of all touches is one, but not come to; what lies ahead of the ring is.
        self.many(([3, 3], [(0, 2, 1, 1), (1, 2, 0, 1)]), 4, 0)
        self.many(([2, 2, 2], [(0, 1, 1, 0), (1, 1, 0, 0)]), 3, 0)

    def test_a_note_twice_counts_once(self):
        self.many(([1, 1], [(0, 0, 1, 0), (0, 0, 1, 0)]), 3, 1)

    def test_eight_hands(self):
        self.many((8 * [1], []), 256, math.factorial(8))
        self.many((8 * [1], [(hand, 0, hand + 1, 0) for hand in range(7)]), 9, 1)

    def test_more_orders_than_the_bound_of_cuts(self):
        # Cuts alone are bounded: 43 * 43 of them, and a number of orders of twenty-five figures.
        self.many(([42, 42], []), 43 * 43, math.comb(84, 42))

    def test_against_the_definition(self):
        chance = random.Random(7)
        for turn in range(300):
            record = some_record(chance, chance.randrange(4), 2, chance.randrange(5))
            kept = [order for order in orders_of(record[0]) if due_keeps(record, order)]
            self.many(record, len(come_to(record)), len(kept))

    def test_three_hundred_touches(self):
        chain = [(k % 2, k // 2, (k + 1) % 2, (k + 1) // 2) for k in range(299)]
        self.many(([150, 150], chain), 301, 1)
        self.many(([300], []), 301, 1)

    def test_two_thousand_and_one_more(self):
        # 2000 is 20 * 100, 2001 is 23 * 87.
        self.many(([19, 99], []), 2000, math.comb(118, 19))
        for deed in (how_many_cuts, how_many_orders):
            self.refused(errors.TooMany, deed, ([22, 86], []))
            self.refused(errors.TooMany, deed, (8 * [37], []))

    def test_too_many_cuts_though_few_orders(self):
        # Up to the ring there are 50 * 50 cuts, and no order.
        record = ([51, 51], [(0, 50, 1, 49), (1, 50, 0, 49)])
        for deed in (how_many_cuts, how_many_orders):
            self.refused(errors.TooMany, deed, record)
        self.assertEqual(how_many_cuts(record, 2500), 2500)
        self.assertEqual(how_many_orders(record, 2500), 0)

    def test_cuts_that_are_not_come_to_do_not_count(self):
        record = ([60, 60], [(0, 59, 1, 0), (1, 59, 0, 0)])
        self.many(record, 1, 0)

    def test_a_bound_by_place_and_by_name(self):
        record = ([3, 3], [])
        for bound in (16, 17, 5000):
            self.assertEqual(how_many_cuts(record, bound), 16)
            self.assertEqual(how_many_cuts(record, most=bound), 16)
            self.assertEqual(how_many_orders(record, bound), 20)
            self.assertEqual(how_many_orders(record, most=bound), 20)
        for bound in (0, 1, 15):
            for deed in (how_many_cuts, how_many_orders):
                self.refused(errors.TooMany, deed, record, bound)
                self.refused(errors.TooMany, lambda: deed(record, most=bound))

    def test_the_bound_of_nothing(self):
        for record in [([], []), ([0, 0], []), ROUND]:
            for deed in (how_many_cuts, how_many_orders):
                self.refused(errors.TooMany, deed, record, 0)
                self.refused(errors.TooMany, lambda: deed(record, most=0))
            self.assertEqual(how_many_cuts(record, 1), 1)
        self.assertEqual(how_many_orders(([], []), 1), 1)
        self.assertEqual(how_many_orders(ROUND, 1), 0)

    def test_the_bound_of_five_thousand(self):
        # 5000 is 50 * 100; one touch behind all of them makes one cut more.
        self.assertEqual(how_many_cuts(([49, 99], []), 5000), 5000)
        self.assertEqual(how_many_orders(([49, 99], []), most=5000), math.comb(148, 49))
        record = ([49, 99, 1], [(0, 48, 2, 0), (1, 98, 2, 0)])
        for deed in (how_many_cuts, how_many_orders):
            self.refused(errors.TooMany, deed, record, 5000)
            self.refused(errors.TooMany, lambda: deed(record, most=5000))
        self.assertEqual(how_many_cuts(record, 5001), 5001)

    def test_whole_numbers(self):
        for deed in (how_many_cuts, how_many_orders):
            self.assertIs(type(deed(RECORD)), int)
            self.assertIs(type(deed(([], []))), int)
            self.assertIs(type(deed(([2, 2], [(0, 0, 1, 0)]))), int)
        self.assertIs(type(how_many_orders(ROUND)), int)

    def test_nothing_is_changed(self):
        record = copy.deepcopy(RECORD)
        for deed in (how_many_cuts, how_many_orders):
            told = deed(record)
            self.assertEqual(record, RECORD)
            self.assertEqual(deed(record), told)


class NoNoteGoesAhead(Refusing):
    # Each with what else it is handed: right, and refused by itself.
    handed = [
        (is_cut, [[0, 0, 0]], [[0]]), (least_cut, [[0, 0, 0]], [[0]]), (greatest_cut, [[0, 0, 0]], [[9, 9, 9]]),
        (keeps, [[0, 0, 0, 1, 1]], [[5]]), (first_order, [], []), (ring, [], []), (ring_shows, [[]], [[]]),
        (how_many_cuts, [], [0]), (how_many_orders, [], [0]),
    ]

    def test_at_each(self):
        for note in NO_NOTES:
            for notes in [[note], [(0, 0, 1, 0), note], [note, (0, 0, 1, 0)], [(0, 0, 1, 0), note, (1, 0, 0, 0)]]:
                for deed, right, wrong in self.handed:
                    self.refused(errors.NoNote, deed, ([3, 2, 0], notes), *right)
                    self.refused(errors.NoNote, deed, ([3, 2, 0], notes), *wrong)

    def test_what_else_is_refused_without_it(self):
        record = ([3, 2, 0], [(0, 0, 1, 0)])
        for deed, error in [(is_cut, errors.NoCut), (least_cut, errors.NoCut), (greatest_cut, errors.NoCut),
                            (keeps, errors.NoOrder), (how_many_cuts, errors.TooMany),
                            (how_many_orders, errors.TooMany)]:
            wrong = [each[2] for each in self.handed if each[0] is deed][0]
            self.refused(error, deed, record, *wrong)

    def test_no_hand(self):
        for deed, right, wrong in self.handed:
            given = {is_cut: [[]], least_cut: [[]], greatest_cut: [[]], keeps: [[]], ring_shows: [[]]}.get(deed, [])
            self.refused(errors.NoNote, deed, ([], [(0, 0, 1, 0)]), *given)

    def test_the_last_touches_are_there(self):
        record = ([3, 2, 0], [(0, 2, 1, 1), (1, 1, 0, 0)])
        self.assertIs(is_cut(record, [0, 0, 0]), True)
        self.assertEqual(how_many_orders(record), 0)

    def test_truths_and_other_forms_are_no_notes(self):
        for note in [(0, 0, True, 0), (False, 0, 1, 0), (0, 0, 1), (0, 0, 1, 0, 0), [0, 0, 1, 0]]:
            for deed, right, wrong in self.handed:
                self.refused(errors.NoNote, deed, ([3, 2, 0], [note]), *right)

    def test_nothing_is_changed(self):
        record = ([3, 2, 0], [(0, 0, 1, 0), (0, 0, 2, 0)])
        kept = copy.deepcopy(record)
        for deed, right, wrong in self.handed:
            self.refused(errors.NoNote, deed, record, *right)
            self.assertEqual(record, kept)


if __name__ == "__main__":
    unittest.main()
