"""Points 2, 3, 26 and 27: recorders."""

import copy
import itertools
import random
import unittest

from fewnotes import errors
from fewnotes.notes import notes
from fewnotes.recorder import Recorder
from fewnotes.texts import read_record, record_text

LOAD, STORE, SWAP = "load", "store", "swap"

# Hand 0 stores, hands 1 and 2 load that, hand 0 stores again; then hand 1, by another cell, is told of by hand 2.
WEB = [(0, STORE, 0), (1, LOAD, 0), (2, LOAD, 0), (0, SWAP, 0), (1, STORE, 1), (2, LOAD, 1), (2, LOAD, 0)]
BROUGHT = [[], [(0, 0, 1, 0)], [(0, 0, 2, 0)], [(1, 0, 0, 1), (2, 0, 0, 1)], [], [(1, 1, 2, 1)], [(0, 1, 2, 2)]]
# For each hand, behind each touch.
KNOWN = [
    [[1, 0, 0], [0, 0, 0], [0, 0, 0]],
    [[1, 0, 0], [1, 1, 0], [0, 0, 0]],
    [[1, 0, 0], [1, 1, 0], [1, 0, 1]],
    [[2, 1, 1], [1, 1, 0], [1, 0, 1]],
    [[2, 1, 1], [1, 2, 0], [1, 0, 1]],
    [[2, 1, 1], [1, 2, 0], [1, 2, 2]],
    [[2, 1, 1], [1, 2, 0], [2, 2, 3]],
]
BIG = 10 ** 29


class Refusing(unittest.TestCase):
    def refused(self, error, deed, *given):
        with self.assertRaises(errors.NoteError, msg=repr(given)) as taken:
            deed(*given)
        self.assertIs(type(taken.exception), error, given)


def recorded(hands, web):
    recorder = Recorder(hands)
    for touch in web:
        recorder.did(*touch)
    return recorder


def all_told(recorder):
    counts = recorder.counts()
    known = [recorder.known(hand) for hand in range(len(counts))]
    return recorder.notes(), counts, known, len(recorder), str(recorder)


def some_web(chance, length, hands, cells):
    return [(chance.randrange(hands), chance.choice([LOAD, STORE, SWAP]), chance.randrange(cells))
            for place in range(length)]


def named(web):
    """For each place (hand, k), said as the document says it."""
    return [(touch[0], len([one for one in web[:place] if one[0] == touch[0]])) for place, touch in enumerate(web)]


def meeting(one, other):
    return one[0] != other[0] and one[2] == other[2] and {one[1], other[1]} != {LOAD}


def behind(web):
    """For each place all that come behind it by some way."""
    ways = [set() for touch in web]
    for one in reversed(range(len(web))):
        for other in range(one + 1, len(web)):
            if web[one][0] == web[other][0] or meeting(web[one], web[other]):
                ways[one] |= {other} | ways[other]
    return ways


def due_brought(web):
    """For each place the notes of which it is the second touch: no way but the step itself."""
    names, ways = named(web), behind(web)
    told = [[] for touch in web]
    for one, other in itertools.combinations(range(len(web)), 2):
        if meeting(web[one], web[other]):
            if not any(between in ways[one] and other in ways[between] for between in range(one + 1, other)):
                told[other].append(names[one] + names[other])
    return [sorted(each) for each in told]


def due_known(hands, web, hand):
    places = [place for place, touch in enumerate(web) if touch[0] == hand]
    if not places:
        return hands * [0]
    ways = behind(web)
    ahead = [web[place][0] for place in range(len(web)) if places[-1] in ways[place]] + [hand]
    return [ahead.count(each) for each in range(hands)]


class Made(Refusing):
    def test_one_to_eight_hands(self):
        for hands in range(1, 9):
            recorder = Recorder(hands)
            self.assertEqual(all_told(recorder)[:4], ([], hands * [0], hands * [hands * [0]], 0))
            self.assertEqual(str(recorder), " ".join(["counts"] + hands * ["0"]))
            self.assertEqual(recorder.did(hands - 1, STORE, 0), [])
            self.assertEqual(recorder.counts(), (hands - 1) * [0] + [1])
            self.refused(errors.NoHand, recorder.did, hands, STORE, 0)

    def test_another_number_of_hands(self):
        for hands in [0, 9, 10, -1, -2, -8, 16, BIG, -BIG]:
            self.refused(errors.NoHand, Recorder, hands)

    def test_truths_are_no_numbers_of_hands(self):
        for hands in [True, False]:
            self.refused(errors.NoHand, Recorder, hands)


class Brought(Refusing):
    def test_some(self):
        recorder = Recorder(3)
        for touch, due in zip(WEB, BROUGHT):
            self.assertEqual(recorder.did(*touch), due)
        self.assertEqual(recorder.notes(), sorted(sum(BROUGHT, [])))

    def test_none(self):
        recorder = Recorder(3)
        # One hand alone, other cells, loads alone.
        for touch in [(0, STORE, 0), (0, SWAP, 0), (1, STORE, 1), (2, LOAD, 2), (1, LOAD, 2), (0, LOAD, 2)]:
            self.assertEqual(recorder.did(*touch), [])
        self.assertEqual((recorder.notes(), len(recorder)), ([], 0))

    def test_by_numbers(self):
        recorder = Recorder(8)
        for hand in [5, 2, 7, 1, 6]:
            recorder.did(hand, LOAD, 3)
        self.assertEqual(recorder.did(4, STORE, 3),
                         [(1, 0, 4, 0), (2, 0, 4, 0), (5, 0, 4, 0), (6, 0, 4, 0), (7, 0, 4, 0)])
        self.assertEqual(recorder.did(0, SWAP, 3), [(4, 0, 0, 0)])
        self.assertEqual(recorder.notes(), [(1, 0, 4, 0), (2, 0, 4, 0), (4, 0, 0, 0), (5, 0, 4, 0), (6, 0, 4, 0),
                                            (7, 0, 4, 0)])

    def test_what_is_known_brings_no_note(self):
        recorder = Recorder(2)
        recorder.did(0, STORE, 0)
        recorder.did(0, STORE, 1)
        self.assertEqual(recorder.did(1, LOAD, 1), [(0, 1, 1, 0)])
        self.assertEqual(recorder.did(1, LOAD, 0), [])
        self.assertEqual(recorder.did(1, STORE, 0), [])
        self.assertEqual(recorder.did(0, LOAD, 0), [(1, 2, 0, 2)])

    def test_what_is_known_through_another_hand(self):
        recorder = recorded(3, [(0, STORE, 0), (1, SWAP, 0), (1, STORE, 1)])
        self.assertEqual(recorder.did(2, LOAD, 1), [(1, 1, 2, 0)])
        self.assertEqual(recorder.did(2, LOAD, 0), [])

    def test_cells_to_the_twentieth(self):
        recorder = recorded(2, [(0, STORE, cell) for cell in range(20)])
        self.assertEqual(recorder.did(1, LOAD, 3), [(0, 3, 1, 0)])
        self.assertEqual(recorder.did(1, LOAD, 0), [])
        self.assertEqual(recorder.did(1, LOAD, 19), [(0, 19, 1, 2)])

    def test_kinds(self):
        recorder = Recorder(2)
        for told in [recorder.did(0, STORE, 0), recorder.did(1, SWAP, 0), recorder.notes(), recorder.counts(),
                     recorder.known(0), recorder.known(1)]:
            self.assertIs(type(told), list)
        for note in recorder.notes() + recorder.did(0, LOAD, 0):
            self.assertIs(type(note), tuple)
            self.assertEqual([type(number) for number in note], 4 * [int])

    def test_no_hand(self):
        for hands in [1, 2, 8]:
            recorder = recorded(hands, [(hand, STORE, 0) for hand in range(hands)])
            before = all_told(recorder)
            for hand in [hands, hands + 1, 9, -1, -2, -hands, BIG, -BIG]:
                for kind in [LOAD, STORE, SWAP]:
                    self.refused(errors.NoHand, recorder.did, hand, kind, 0)
                self.refused(errors.NoHand, recorder.known, hand)
            self.assertEqual(all_told(recorder), before)
            due = [(hands - 1, 0, 0, 1)] if hands > 1 else []
            self.assertEqual(recorder.did(0, STORE, 0), due)

    def test_truths_are_no_hands(self):
        recorder = Recorder(2)
        for hand in [True, False]:
            self.refused(errors.NoHand, recorder.did, hand, LOAD, 0)
            self.refused(errors.NoHand, recorder.known, hand)
        self.assertEqual(recorder.counts(), [0, 0])


class AtEachMoment(unittest.TestCase):
    def test_known(self):
        recorder = Recorder(3)
        self.assertEqual([recorder.known(hand) for hand in range(3)], 3 * [[0, 0, 0]])
        for touch, due in zip(WEB, KNOWN):
            recorder.did(*touch)
            self.assertEqual([recorder.known(hand) for hand in range(3)], due)

    def test_against_the_definition(self):
        chance = random.Random(1)
        seen = 0
        for turn in range(250):
            hands, length = chance.randrange(1, 9), chance.randrange(1, 22)
            web = some_web(chance, length, hands, chance.randrange(1, 5))
            recorder = Recorder(hands)
            due = due_brought(web)
            for place, touch in enumerate(web):
                so_far = web[:place + 1]
                self.assertEqual(recorder.did(*touch), due[place], so_far)
                self.assertEqual(recorder.notes(), sorted(sum(due[:place + 1], [])))
                self.assertEqual(recorder.notes(), notes(so_far))
                self.assertEqual(recorder.counts(), [[one[0] for one in so_far].count(hand) for hand in range(hands)])
                self.assertEqual(len(recorder), len(recorder.notes()))
            for hand in range(hands):
                self.assertEqual(recorder.known(hand), due_known(hands, web, hand), (web, hand))
            seen += len(recorder)
        self.assertGreater(seen, 800)

    def test_known_at_each_moment(self):
        chance = random.Random(2)
        for turn in range(60):
            hands = chance.randrange(2, 5)
            web = some_web(chance, 10, hands, 2)
            recorder = Recorder(hands)
            for place, touch in enumerate(web):
                recorder.did(*touch)
                for hand in range(hands):
                    self.assertEqual(recorder.known(hand), due_known(hands, web[:place + 1], hand))

    def test_three_hundred_touches(self):
        chance = random.Random(3)
        for hands, cells in [(8, 20), (8, 1), (2, 3), (1, 1)]:
            web = some_web(chance, 300, hands, cells)
            recorder = Recorder(hands)
            for place, touch in enumerate(web):
                name = (touch[0], recorder.counts()[touch[0]])
                brought = recorder.did(*touch)
                if place % 60 == 59:
                    self.assertEqual(recorder.notes(), notes(web[:place + 1]))
                    self.assertEqual(brought, [note for note in recorder.notes() if note[2:] == name])
            self.assertEqual(sum(recorder.counts()), 300)
            for hand in range(hands):
                self.assertEqual(recorder.known(hand), due_known(hands, web, hand))


class Twins(Refusing):
    def test_all_is_alike(self):
        recorder = Recorder(3)
        for touch in WEB:
            twin = recorder.twin()
            self.assertIsInstance(twin, Recorder)
            self.assertIsNot(twin, recorder)
            self.assertEqual(all_told(twin), all_told(recorder))
            self.assertTrue(twin == recorder)
            self.assertEqual(twin.did(*touch), recorder.did(*touch))
            self.assertEqual(all_told(twin), all_told(recorder))

    def test_either_by_itself(self):
        recorder = recorded(3, WEB[:4])
        twin = recorder.twin()
        before = all_told(recorder)
        for touch in WEB[4:]:
            twin.did(*touch)
        self.assertEqual(all_told(recorder), before)
        self.assertEqual(all_told(twin), all_told(recorded(3, WEB)))
        twin = recorder.twin()
        for touch, due in zip(WEB[4:], BROUGHT[4:]):
            self.assertEqual(recorder.did(*touch), due)
        self.assertEqual(all_told(twin), before)
        self.assertEqual(twin.did(0, LOAD, 1), [])
        self.assertEqual(all_told(recorder), all_told(recorded(3, WEB)))

    def test_in_turn(self):
        one = recorded(2, [(0, STORE, 0)])
        other = one.twin()
        third = other.twin()
        self.assertEqual(one.did(1, STORE, 0), [(0, 0, 1, 0)])
        self.assertEqual(other.did(0, STORE, 0), [])
        self.assertEqual(one.did(0, LOAD, 0), [(1, 0, 0, 1)])
        self.assertEqual(other.did(1, LOAD, 0), [(0, 1, 1, 0)])
        self.assertEqual(third.counts(), [1, 0])
        self.assertEqual((one.known(0), other.known(0), third.known(0)), ([2, 1], [2, 0], [1, 0]))
        self.assertEqual((one.known(1), other.known(1), third.known(1)), ([1, 1], [2, 1], [0, 0]))

    def test_of_eight_hands(self):
        twin = Recorder(8).twin()
        self.assertEqual(twin.counts(), 8 * [0])
        twin.did(7, LOAD, 0)
        self.refused(errors.NoHand, twin.did, 8, LOAD, 0)
        self.assertEqual(twin.twin().counts(), 7 * [0] + [1])


class Alike(unittest.TestCase):
    def alike(self, one, other, due):
        for left, right in [(one, other), (other, one)]:
            self.assertIs(left == right, due)
            self.assertIs(left != right, not due)

    def test_told_alike(self):
        self.alike(recorded(3, WEB), recorded(3, WEB), True)
        self.alike(Recorder(1), Recorder(1), True)

    def test_told_in_other_orders(self):
        web = [WEB[place] for place in [0, 2, 1, 4, 3, 5, 6]]
        self.alike(recorded(3, web), recorded(3, WEB), True)
        self.alike(recorded(2, [(0, STORE, 0), (1, STORE, 1)]), recorded(2, [(1, STORE, 1), (0, STORE, 0)]), True)

    def test_other_kinds_and_cells(self):
        # The counts and the notes alone count, not what they came of.
        self.alike(recorded(2, [(0, STORE, 0), (1, LOAD, 0)]), recorded(2, [(0, SWAP, 7), (1, STORE, 7)]), True)
        self.alike(recorded(2, [(0, STORE, 0), (1, LOAD, 1)]), recorded(2, [(1, SWAP, 5), (0, LOAD, 4)]), True)

    def test_other_knowledge_in_notes_that_are_alike(self):
        self.alike(recorded(2, [(0, STORE, 0), (1, LOAD, 0)]), recorded(2, [(1, LOAD, 0), (0, STORE, 0)]), False)

    def test_other_counts(self):
        self.alike(recorded(2, [(0, STORE, 0)]), recorded(2, [(1, STORE, 0)]), False)
        self.alike(recorded(2, [(0, STORE, 0)]), recorded(2, [(0, STORE, 0), (0, STORE, 0)]), False)
        self.alike(recorded(2, []), recorded(2, [(0, STORE, 0)]), False)

    def test_other_notes(self):
        self.alike(recorded(2, [(0, STORE, 0), (1, STORE, 0)]), recorded(2, [(0, STORE, 0), (1, STORE, 1)]), False)
        one = recorded(2, [(0, STORE, 0), (1, STORE, 0), (1, STORE, 1)])
        other = recorded(2, [(0, STORE, 0), (1, STORE, 1), (1, STORE, 0)])
        self.assertEqual((len(one), len(other), one.counts()), (1, 1, other.counts()))
        self.alike(one, other, False)

    def test_other_numbers_of_hands(self):
        for one, other in itertools.combinations(range(1, 9), 2):
            self.alike(Recorder(one), Recorder(other), False)
        web = [(0, STORE, 0), (1, LOAD, 0)]
        self.alike(recorded(2, web), recorded(3, web), False)

    def test_nothing_else(self):
        for recorder in [Recorder(1), recorded(3, WEB)]:
            for thing in [0, 1, None, "", str(recorder), [], recorder.notes(), recorder.counts(), True, False, {},
                          (recorder.counts(), recorder.notes()), len(recorder), Recorder, object()]:
                self.alike(recorder, thing, False)

    def test_against_the_record(self):
        chance = random.Random(4)
        seen = {True: 0, False: 0}
        for turn in range(300):
            web = some_web(chance, 4, 2, 2)
            again = list(web)
            chance.shuffle(again)
            one, other = recorded(2, web), recorded(2, again)
            due = (one.counts(), notes(web)) == (other.counts(), notes(again))
            self.alike(one, other, due)
            seen[due] += 1
        self.assertGreater(min(seen.values()), 50)

    def test_nothing_is_changed(self):
        recorder = recorded(3, WEB)
        before = all_told(recorder)
        self.assertEqual((recorder == recorder.twin(), recorder == 3, len(recorder)), (True, False, 6))
        self.assertEqual(all_told(recorder), before)


class LenAndText(unittest.TestCase):
    def test_len(self):
        recorder = Recorder(3)
        for place, touch in enumerate(WEB):
            recorder.did(*touch)
            self.assertEqual(len(recorder), len(sum(BROUGHT[:place + 1], [])))
        self.assertIs(type(len(recorder)), int)

    def test_text(self):
        recorder = recorded(3, WEB)
        self.assertEqual(str(recorder),
                         "counts 2 2 3\n0.0 1.0\n0.0 2.0\n0.1 2.2\n1.0 0.1\n1.1 2.1\n2.0 0.1")
        self.assertIs(type(str(recorder)), str)
        self.assertEqual(f"{recorder}", str(recorder))
        self.assertEqual(str(Recorder(1)), "counts 0")
        self.assertEqual(str(recorded(2, [(1, LOAD, 0)])), "counts 0 1")

    def test_notes_in_the_text_by_numbers(self):
        # Taken in another order than that of their numbers, and told by these: 2 ahead of 10.
        web = 3 * [(1, LOAD, 5)] + 8 * [(1, STORE, 9)] + [(0, LOAD, 9), (1, STORE, 5), (0, LOAD, 5)]
        web += [(2, STORE, 1), (0, SWAP, 1), (0, STORE, 2), (1, LOAD, 2)]
        self.assertEqual(str(recorded(3, web)), "counts 4 13 1\n0.3 1.12\n1.10 0.0\n1.11 0.1\n2.0 0.2")

    def test_the_text_of_the_record(self):
        chance = random.Random(5)
        for turn in range(60):
            hands = chance.randrange(1, 9)
            web = some_web(chance, chance.randrange(30), hands, 2)
            recorder = recorded(hands, web)
            self.assertEqual(str(recorder), record_text((recorder.counts(), notes(web))))
            self.assertEqual(read_record(str(recorder)), (recorder.counts(), recorder.notes()))


class Copies(unittest.TestCase):
    def test_lists_are_the_askers_own(self):
        recorder = recorded(3, WEB[:-1])
        before = all_told(recorder)
        twin = recorder.twin()
        for tell in [recorder.notes, recorder.counts, lambda: recorder.known(0), lambda: recorder.known(2)]:
            told = tell()
            told[0] = 77
            told.append(5)
            told.reverse()
            self.assertEqual(all_told(recorder), before)
        brought = recorder.did(*WEB[-1])
        brought.append((1, 1, 0, 1))
        brought[0] = (2, 2, 1, 1)
        twin.did(*WEB[-1])
        self.assertEqual(all_told(recorder), all_told(twin))

    def test_what_was_told_stays(self):
        recorder = recorded(3, WEB[:4])
        told = all_told(recorder) + (recorder.did(*WEB[4]), recorder.did(*WEB[5]))
        kept = copy.deepcopy(told)
        recorder.did(*WEB[6])
        recorder.did(0, STORE, 1)
        self.assertEqual(told, kept)
        self.assertNotEqual(all_told(recorder)[0], kept[0])

    def test_known_of_no_touch_is_a_new_list(self):
        recorder = Recorder(2)
        recorder.known(0).append(4)
        recorder.known(0)[0] = 9
        self.assertEqual((recorder.known(0), recorder.known(1), recorder.counts()), ([0, 0], [0, 0], [0, 0]))

    def test_the_same_asked_again(self):
        recorder = recorded(3, WEB)
        self.assertEqual(all_told(recorder), all_told(recorder))

    def test_recorders_are_apart(self):
        one, other = Recorder(2), Recorder(2)
        one.did(0, STORE, 0)
        self.assertEqual(other.counts(), [0, 0])
        self.assertEqual(other.did(1, LOAD, 0), [])


if __name__ == "__main__":
    unittest.main()
