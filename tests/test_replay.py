"""Points 2, 3, 28 and 29: replays."""

import copy
import random
import unittest

from fewnotes import errors
from fewnotes.programs import read
from fewnotes.replay import Replay, played
from fewnotes.works import Works

BIG = 10 ** 29

# Hand 0 loads and stores, hand 1 swaps twice, hand 2 stores and says what it has loaded.
PROGRAM = read("\n".join([
    "cells 2",
    "hand", "load a 0", "store 0 a+1", "say a",
    "hand", "let b 5", "swap b 0 b", "swap b 1 b+1", "say b",
    "hand", "store 1 7", "load c 0", "say c",
]))
# (0, 1) ahead of (1, 0), (1, 1) ahead of (2, 0): hand 0, then hand 1, then hand 2; one note twice.
IN_TURN = ([2, 2, 2], [(1, 1, 2, 0), (0, 1, 1, 0), (1, 1, 2, 0)])
LOOSE = ([2, 2, 2], [])


class Refusing(unittest.TestCase):
    def refused(self, error, deed, *given):
        with self.assertRaises(errors.NoteError, msg=repr(given)) as taken:
            deed(*given)
        self.assertIs(type(taken.exception), error, given)
        return taken.exception

    def held(self, replay, hand, note):
        before = all_told(replay)
        told = self.refused(errors.Held, replay.turn, hand).note
        self.assertEqual(told, note)
        self.assertIs(type(told), tuple)
        self.assertEqual(all_told(replay), before)


def works_told(works):
    hands = range(len(works.counts()))
    each = [(works.boxes(hand), works.said(hand), works.how(hand)) for hand in hands]
    return works.cells(), each, works.counts(), len(works)


def all_told(replay):
    return replay.free(), replay.counts(), replay.done(), len(replay), works_told(replay.works())


def turned(works, hands):
    for hand in hands:
        works.turn(hand)
    return works


def lowest(free):
    return free[0]


def highest(free):
    return free[-1]


def holders(record, done, hand):
    """The notes that hold the hand's next touch back, by numbers."""
    counts, some = record
    return sorted(note for note in some if note[2:] == (hand, done[hand]) and done[note[0]] <= note[1])


def refusal(record, done, works, hand):
    """What a turn of the hand is refused with, None where it is free."""
    if not 0 <= hand < len(record[0]):
        return errors.NoHand
    if done[hand] == record[0][hand] or works.how(hand) != "waits":
        return errors.Over
    return errors.Held if holders(record, done, hand) else None


def some_program(chance, hands):
    lines = ["cells 2"]
    for hand in range(hands):
        lines.append("hand")
        for row in range(chance.randrange(5)):
            lines.append(chance.choice(["load a 0", "load b 1", "store 0 a+3", "store 1 b+a", "swap a 1 b+1", "say a",
                                        "let b a+b"]))
        lines.extend(chance.choice([["go 0"], ["say b"], []]))
    return read("\n".join(lines))


def some_record(chance, hands):
    counts = [chance.randrange(5) for hand in range(hands)]
    touches = [(hand, k) for hand, count in enumerate(counts) for k in range(count)]
    pairs = [one + other for one in touches for other in touches if one[0] != other[0]]
    return counts, [chance.choice(pairs) for note in range(chance.randrange(6) if pairs else 0)]


class Made(Refusing):
    def test_at_first(self):
        replay = Replay(Works(PROGRAM), IN_TURN)
        self.assertEqual(all_told(replay), ([0], [0, 0, 0], False, 6, works_told(Works(PROGRAM))))
        self.assertEqual(Replay(Works(PROGRAM), LOOSE).free(), [0, 1, 2])

    def test_no_hand(self):
        for counts in [[], [2], [2, 2], [2, 2, 2, 2], 8 * [0]]:
            self.refused(errors.NoHand, Replay, Works(PROGRAM), (counts, []))
            self.refused(errors.NoHand, played, Works(PROGRAM), (counts, []), lowest)
        self.refused(errors.NoHand, Replay, Works(read("cells 1\nhand")), ([], []))
        self.refused(errors.NoHand, Replay, Works(read("cells 1\nhand")), ([0, 0], []))

    def test_one_hand_and_eight(self):
        replay = Replay(Works(read("cells 1\nhand\nload a 0")), ([1], []))
        self.assertEqual(replay.turn(0), ("load", 0, 0, None))
        self.assertIs(replay.done(), True)
        replay = Replay(Works(read("cells 1" + 8 * "\nhand\nload a 0")), (8 * [1], [(7, 0, 0, 0)]))
        self.assertEqual(replay.free(), [1, 2, 3, 4, 5, 6, 7])
        self.refused(errors.NoHand, replay.turn, 8)
        self.assertEqual(replay.turn(7), ("load", 0, 0, None))
        self.assertEqual(replay.free(), [0, 1, 2, 3, 4, 5, 6])

    def test_no_note(self):
        for note in [(3, 0, 1, 0), (0, 0, 3, 0), (-1, 0, 1, 0), (0, 0, -1, 0), (0, 0, 0, 1), (1, 1, 1, 0), (0, 2, 1, 0),
                     (0, -1, 1, 0), (0, 0, 1, 2), (0, 0, 1, -1), (BIG, 0, 1, 0), (0, BIG, 1, 0), (0, 0, -BIG, 0)]:
            for some in [[note], [(0, 0, 1, 0), note], [note, (0, 0, 1, 0)]]:
                self.refused(errors.NoNote, Replay, Works(PROGRAM), ([2, 2, 2], some))
                self.refused(errors.NoNote, played, Works(PROGRAM), ([2, 2, 2], some), lowest)

    def test_no_note_ahead_of_no_hand(self):
        for record in [([2, 2], [(0, 0, 2, 0)]), ([2, 2, 2, 2], [(0, 0, 0, 1)]), ([], [(0, 0, 1, 0)]),
                       ([2], [(0, 0, 1, 0)]), ([2, 2, 2, 2], [(3, 2, 0, 0)])]:
            self.refused(errors.NoNote, Replay, Works(PROGRAM), record)
            self.refused(errors.NoNote, played, Works(PROGRAM), record, lowest)
        self.refused(errors.NoHand, Replay, Works(PROGRAM), ([2, 2, 2, 2], [(3, 1, 0, 0)]))

    def test_notes_by_the_record_not_by_the_works(self):
        # A touch that the hand won't come to may be named.
        replay = Replay(Works(PROGRAM), ([9, 1, 1], [(0, 8, 1, 0)]))
        self.held(replay, 1, (0, 8, 1, 0))


class Turns(Refusing):
    def test_in_turn(self):
        replay = Replay(Works(PROGRAM), IN_TURN)
        due = [(0, ("load", 0, 0, None)), (0, ("store", 0, None, 1)), (1, ("swap", 0, 1, 5)), (1, ("swap", 1, 0, 2)),
               (2, ("store", 1, None, 7)), (2, ("load", 0, 5, None))]
        for place, (hand, touch) in enumerate(due):
            self.assertEqual(replay.free(), [hand])
            self.assertEqual((replay.done(), len(replay)), (False, 6 - place))
            told = replay.turn(hand)
            self.assertEqual(told, touch)
            self.assertIs(type(told), tuple)
        self.assertEqual(all_told(replay)[:4], ([], [2, 2, 2], True, 0))
        self.assertEqual(replay.works(), turned(Works(PROGRAM), [0, 0, 1, 1, 2, 2]))
        self.assertEqual([replay.works().said(hand) for hand in range(3)], [[0], [0], [5]])

    def test_no_hand(self):
        replay = Replay(Works(PROGRAM), IN_TURN)
        before = all_told(replay)
        for hand in [3, 4, 8, -1, -2, -3, BIG, -BIG]:
            self.refused(errors.NoHand, replay.turn, hand)
        self.assertEqual(all_told(replay), before)

    def test_truths_are_no_hands(self):
        replay = Replay(Works(PROGRAM), LOOSE)
        for hand in [True, False]:
            self.refused(errors.NoHand, replay.turn, hand)

    def test_over_where_the_count_is_done(self):
        replay = Replay(Works(PROGRAM), ([1, 0, 2], []))
        self.refused(errors.Over, replay.turn, 1)
        replay.turn(0)
        before = all_told(replay)
        self.refused(errors.Over, replay.turn, 0)
        self.refused(errors.Over, replay.turn, 1)
        self.assertEqual(all_told(replay), before)
        self.assertEqual((replay.free(), replay.done(), len(replay)), ([2], False, 2))
        self.assertEqual(replay.works().how(0), "waits")

    def test_over_where_the_hand_ended(self):
        replay = Replay(Works(PROGRAM), ([5, 2, 2], []))
        replay.turn(0)
        replay.turn(0)
        before = all_told(replay)
        self.assertEqual(before[:4], ([1, 2], [2, 0, 0], False, 7))
        self.refused(errors.Over, replay.turn, 0)
        self.assertEqual(all_told(replay), before)
        for hand in [1, 1, 2, 2]:
            replay.turn(hand)
        # Counts are left that the hand has no touches for.
        self.assertEqual(all_told(replay)[:4], ([], [2, 2, 2], False, 3))

    def test_over_where_the_hand_has_no_touch(self):
        replay = Replay(Works(read("cells 1\nhand\nsay 3\nhand\nload a 0")), ([2, 1], []))
        self.assertEqual(replay.free(), [1])
        self.refused(errors.Over, replay.turn, 0)

    def test_over_where_the_hand_is_lost(self):
        replay = Replay(Works(read("cells 1\nhand\ngo 0\nhand\nload a 0\ngo 1")), ([2, 3], []))
        self.assertEqual(replay.free(), [1])
        self.refused(errors.Over, replay.turn, 0)
        replay.turn(1)
        self.refused(errors.Over, replay.turn, 1)
        self.assertEqual(all_told(replay)[:4], ([], [0, 1], False, 4))

    def test_over_ahead_of_held(self):
        # The hand ended, is lost, or has no rows, and a note is there as well.
        for rows in ["", "\ngo 0", "\nsay 1"]:
            replay = Replay(Works(read("cells 1\nhand" + rows + "\nhand\nload a 0")), ([1, 1], [(1, 0, 0, 0)]))
            self.refused(errors.Over, replay.turn, 0)
            self.assertEqual(replay.free(), [1])
        replay = Replay(Works(read("cells 1\nhand\nload a 0\nhand\nload a 0")), ([2, 1], [(1, 0, 0, 1)]))
        replay.turn(0)
        self.refused(errors.Over, replay.turn, 0)

    def test_held(self):
        replay = Replay(Works(PROGRAM), IN_TURN)
        self.held(replay, 1, (0, 1, 1, 0))
        self.held(replay, 2, (1, 1, 2, 0))
        replay.turn(0)
        self.held(replay, 1, (0, 1, 1, 0))
        replay.turn(0)
        replay.turn(1)
        self.held(replay, 2, (1, 1, 2, 0))
        replay.turn(1)
        self.assertEqual(replay.turn(2), ("store", 1, None, 7))

    def test_held_at_a_later_touch(self):
        replay = Replay(Works(PROGRAM), ([2, 2, 2], [(2, 0, 0, 1)]))
        self.assertEqual(replay.free(), [0, 1, 2])
        replay.turn(0)
        self.held(replay, 0, (2, 0, 0, 1))
        self.assertEqual(replay.free(), [1, 2])
        replay.turn(2)
        self.assertEqual(replay.turn(0), ("store", 0, None, 1))

    def test_the_first_note_that_holds_by_numbers(self):
        rows = 12 * "\nload a 0"
        works = Works(read("cells 1" + 3 * ("\nhand" + rows)))
        notes = [(2, 1, 0, 0), (1, 10, 0, 0), (1, 2, 0, 0), (2, 0, 0, 0), (1, 2, 0, 0), (1, 0, 0, 1)]
        replay = Replay(works, ([12, 12, 12], notes))
        self.held(replay, 0, (1, 2, 0, 0))
        for turn in range(3):
            replay.turn(1)
        # 10 is behind 2, which is done.
        self.held(replay, 0, (1, 10, 0, 0))
        for turn in range(8):
            replay.turn(1)
        self.held(replay, 0, (2, 0, 0, 0))
        replay.turn(2)
        self.held(replay, 0, (2, 1, 0, 0))
        replay.turn(2)
        self.assertEqual(replay.turn(0), ("load", 0, 0, None))

    def test_a_note_that_is_there_twice(self):
        replay = Replay(Works(PROGRAM), ([1, 1, 1], 3 * [(2, 0, 1, 0)] + 2 * [(0, 0, 1, 0)] + [(2, 0, 1, 0)]))
        self.held(replay, 1, (0, 0, 1, 0))
        replay.turn(0)
        self.held(replay, 1, (2, 0, 1, 0))
        replay.turn(2)
        self.assertEqual(replay.free(), [1])

    def test_a_ring_holds_for_good(self):
        replay = Replay(Works(PROGRAM), ([1, 1, 1], [(0, 0, 1, 0), (1, 0, 0, 0)]))
        self.assertEqual(replay.free(), [2])
        replay.turn(2)
        self.assertEqual(all_told(replay)[:4], ([], [0, 0, 1], False, 2))
        self.held(replay, 0, (1, 0, 0, 0))
        self.held(replay, 1, (0, 0, 1, 0))

    def test_counts_of_nothing(self):
        replay = Replay(Works(PROGRAM), ([0, 0, 0], []))
        self.assertEqual(all_told(replay), ([], [0, 0, 0], True, 0, works_told(Works(PROGRAM))))
        for hand in range(3):
            self.refused(errors.Over, replay.turn, hand)

    def test_against_the_definition(self):
        chance = random.Random(1)
        seen = {errors.NoHand: 0, errors.Over: 0, errors.Held: 0, None: 0}
        for turn in range(300):
            hands = chance.randrange(1, 5)
            works = Works(some_program(chance, hands))
            record = some_record(chance, hands)
            replay, done = Replay(works, record), hands * [0]
            for again in range(14):
                frees = [hand for hand in range(hands) if refusal(record, done, works, hand) is None]
                self.assertEqual(replay.free(), frees)
                self.assertEqual(replay.counts(), done)
                self.assertIs(replay.done(), done == record[0])
                self.assertEqual(len(replay), sum(record[0]) - sum(done))
                self.assertEqual(replay.works(), works)
                hand = chance.randrange(-1, hands + 1)
                due = refusal(record, done, works, hand)
                seen[due] += 1
                if due is None:
                    self.assertEqual(replay.turn(hand), works.turn(hand))
                    done[hand] += 1
                elif due is errors.Held:
                    self.held(replay, hand, holders(record, done, hand)[0])
                else:
                    self.refused(due, replay.turn, hand)
        self.assertGreater(min(seen.values()), 300)


class Amid(Refusing):
    def test_counts_anew(self):
        works = turned(Works(PROGRAM, [40, 0]), [0, 1])
        replay = Replay(works, ([1, 1, 2], [(1, 0, 0, 0), (2, 0, 1, 0)]))
        self.assertEqual(all_told(replay)[:4], ([2], [0, 0, 0], False, 4))
        self.assertEqual(works_told(replay.works()), works_told(works))
        self.held(replay, 0, (1, 0, 0, 0))
        self.held(replay, 1, (2, 0, 1, 0))
        self.assertEqual(replay.turn(2), ("store", 1, None, 7))
        self.assertEqual(replay.turn(1), ("swap", 1, 7, 41))
        self.assertEqual(replay.turn(0), ("store", 0, None, 41))
        self.assertEqual((replay.counts(), len(replay), replay.done()), ([1, 1, 1], 1, False))
        self.assertEqual((replay.works().counts(), len(replay.works())), ([2, 2, 1], 5))
        self.refused(errors.Over, replay.turn, 0)
        self.assertEqual(replay.turn(2), ("load", 0, 41, None))
        self.assertEqual((replay.done(), len(replay), replay.free()), (True, 0, []))

    def test_of_a_works_that_is_over(self):
        works = turned(Works(PROGRAM), [0, 0, 1, 1, 2, 2])
        replay = Replay(works, IN_TURN)
        self.assertEqual(all_told(replay), ([], [0, 0, 0], False, 6, works_told(works)))
        for hand in range(3):
            self.refused(errors.Over, replay.turn, hand)

    def test_the_works_stays(self):
        works = turned(Works(PROGRAM, [40, 0]), [0])
        before, twin = works_told(works), works.twin()
        replay = Replay(works, ([1, 2, 2], []))
        for hand in [1, 2, 0, 1, 2]:
            replay.turn(hand)
        self.assertEqual((works_told(works), works), (before, twin))
        self.assertEqual(works.turn(0), ("store", 0, None, 41))

    def test_turns_of_the_works_change_nothing(self):
        works = Works(PROGRAM, [40, 0])
        replay = Replay(works, LOOSE)
        before = all_told(replay)
        turned(works, [0, 0, 1, 1, 2])
        self.assertEqual(all_told(replay), before)
        self.assertEqual(replay.turn(2), ("store", 1, None, 7))
        self.assertEqual(replay.turn(1), ("swap", 0, 40, 5))

    def test_the_record_stays_the_askers(self):
        record = copy.deepcopy(IN_TURN)
        replay = Replay(Works(PROGRAM), record)
        other = Replay(Works(PROGRAM), record)
        record[0].clear()
        record[1].clear()
        for each in [replay, other.twin()]:
            self.held(each, 2, (1, 1, 2, 0))
            self.assertEqual([each.turn(hand)[0] for hand in [0, 0, 1, 1, 2, 2]],
                             ["load", "store", "swap", "swap", "store", "load"])
            self.assertIs(each.done(), True)
        self.assertEqual(record, ([], []))
        record = ([1, 1, 1], [])
        replay = Replay(Works(PROGRAM), record)
        record[0][0] = 0
        record[0].append(4)
        record[1].append((0, 0, 1, 0))
        self.assertEqual((replay.free(), len(replay)), ([0, 1, 2], 3))

    def test_the_record_is_not_changed(self):
        record = copy.deepcopy(IN_TURN)
        replay = Replay(Works(PROGRAM), record)
        self.held(replay, 1, (0, 1, 1, 0))
        turned(replay, [0, 0, 1, 1, 2, 2])
        self.assertEqual(record, IN_TURN)


class Told(unittest.TestCase):
    def test_kinds(self):
        replay = Replay(Works(PROGRAM), IN_TURN)
        self.assertEqual([type(replay.free()), type(replay.counts())], [list, list])
        self.assertIs(replay.done(), False)
        self.assertIs(type(len(replay)), int)
        self.assertIsInstance(replay.works(), Works)

    def test_lists_are_the_askers_own(self):
        replay = turned(Replay(Works(PROGRAM), LOOSE), [1])
        before = all_told(replay)
        for tell in [replay.free, replay.counts]:
            told = tell()
            told[0] = 2
            told.append(7)
            told.reverse()
            self.assertEqual(all_told(replay), before)

    def test_what_was_told_stays(self):
        replay = Replay(Works(PROGRAM), LOOSE)
        told = all_told(replay)
        kept = copy.deepcopy(told)
        works = replay.works()
        turned(replay, [0, 0, 1])
        self.assertEqual(told, kept)
        self.assertEqual(works, Works(PROGRAM))
        self.assertEqual(all_told(replay), all_told(replay))

    def test_works_is_a_new_one_each_time(self):
        replay = turned(Replay(Works(PROGRAM, [40, 0]), LOOSE), [0])
        before = all_told(replay)
        one, other = replay.works(), replay.works()
        self.assertIsNot(one, other)
        self.assertEqual(one, other)
        turned(one, [0, 1, 1, 2, 2])
        self.assertEqual(all_told(replay), before)
        self.assertNotEqual(one, other)
        self.assertEqual(other, replay.works())
        self.assertEqual(replay.turn(0), ("store", 0, None, 41))
        self.assertEqual(other.turn(0), ("store", 0, None, 41))

    def test_free_is_rising(self):
        replay = Replay(Works(PROGRAM), ([2, 2, 2], [(2, 0, 1, 1)]))
        self.assertEqual(replay.free(), [0, 1, 2])
        replay.turn(1)
        self.assertEqual(replay.free(), [0, 2])
        replay.turn(2)
        self.assertEqual(replay.free(), [0, 1, 2])

    def test_three_hundred_touches(self):
        works = Works(read("cells 1\nhand\nload a 0\nstore 0 a+1\ngo 0\nhand\nswap a 0 a+1\ngo 0"))
        notes = [(0, k, 1, k) for k in range(150)] + [(1, k, 0, k + 1) for k in range(149)]
        replay = Replay(works, ([150, 150], notes))
        for turn in range(300):
            self.assertEqual((replay.free(), len(replay)), ([turn % 2], 300 - turn))
            replay.turn(turn % 2)
        self.assertIs(replay.done(), True)
        self.assertEqual(replay.works(), turned(works, 150 * [0, 1]))


class Twins(Refusing):
    def test_all_is_alike(self):
        replay = Replay(turned(Works(PROGRAM, [9, 8]), [2]), ([2, 2, 1], [(0, 1, 1, 0), (0, 1, 1, 0), (1, 1, 2, 0)]))
        for hand in [0, 0, 1, 1, 2]:
            twin = replay.twin()
            self.assertIsInstance(twin, Replay)
            self.assertIsNot(twin, replay)
            self.assertEqual(all_told(twin), all_told(replay))
            for other in range(3):
                if other not in replay.free():
                    self.assertEqual(type(self.refusal(twin, other)), type(self.refusal(replay, other)))
            self.assertEqual(twin.turn(hand), replay.turn(hand))
            self.assertEqual(all_told(twin), all_told(replay))
        self.assertIs(replay.twin().done(), True)

    def refusal(self, replay, hand):
        with self.assertRaises(errors.NoteError) as taken:
            replay.turn(hand)
        return taken.exception

    def test_either_by_itself(self):
        replay = turned(Replay(Works(PROGRAM), IN_TURN), [0])
        twin = replay.twin()
        before = all_told(replay)
        turned(twin, [0, 1])
        self.assertEqual(all_told(replay), before)
        self.assertEqual(twin.counts(), [2, 1, 0])
        told = all_told(twin)
        turned(replay, [0, 1, 1, 2])
        self.assertEqual(all_told(twin), told)
        self.held(twin, 2, (1, 1, 2, 0))
        self.assertEqual(twin.twin().turn(1), ("swap", 1, 0, 2))
        self.assertEqual(all_told(twin), told)

    def test_of_a_twin_amid(self):
        replay = turned(Replay(Works(PROGRAM), ([2, 2, 2], [(1, 0, 0, 1)])), [0])
        twin = replay.twin().twin()
        self.held(twin, 0, (1, 0, 0, 1))
        twin.turn(1)
        self.assertEqual(twin.free(), [0, 1, 2])
        self.assertEqual((replay.free(), len(replay), len(twin)), ([1, 2], 5, 4))


class Played(Refusing):
    def test_by_the_notes(self):
        for choose in [lowest, highest]:
            self.assertEqual(played(Works(PROGRAM), IN_TURN, choose), [0, 0, 1, 1, 2, 2])

    def test_by_choice(self):
        self.assertEqual(played(Works(PROGRAM), LOOSE, lowest), [0, 0, 1, 1, 2, 2])
        self.assertEqual(played(Works(PROGRAM), LOOSE, highest), [2, 2, 1, 1, 0, 0])
        self.assertEqual(played(Works(PROGRAM), ([1, 2, 0], []), highest), [1, 1, 0])
        self.assertEqual(played(Works(PROGRAM), ([2, 2, 2], [(0, 0, 2, 0)]), highest), [1, 1, 0, 2, 2, 0])

    def test_what_the_def_is_handed(self):
        handed = []

        def choose(free):
            handed.append(list(free))
            self.assertIs(type(free), list)
            return free[-1]

        record = ([1, 2, 1], [(1, 0, 0, 0), (0, 0, 2, 0)])
        self.assertEqual(played(Works(PROGRAM), record, choose), [1, 1, 0, 2])
        self.assertEqual(handed, [[1], [0, 1], [0], [2]])

    def test_the_list_is_a_new_one_each_time(self):
        kept = []

        def choose(free):
            kept.append(free)
            return free[0]

        played(Works(PROGRAM), LOOSE, choose)
        self.assertEqual(kept, [[0, 1, 2], [0, 1, 2], [1, 2], [1, 2], [2], [2]])
        self.assertEqual(len({id(free) for free in kept}), 6)

        def spoil(free):
            hand = free[0]
            free.clear()
            free.extend([7, 8])
            return hand

        self.assertEqual(played(Works(PROGRAM), LOOSE, spoil), [0, 0, 1, 1, 2, 2])

    def test_the_list_frees_no_hand(self):
        def spoil(free):
            free.append(1)
            return 1

        self.refused(errors.NoHand, played, Works(PROGRAM), IN_TURN, spoil)

    def test_no_hand(self):
        for hand in [1, 2, 3, 8, -1, -3, BIG, -BIG]:
            self.refused(errors.NoHand, played, Works(PROGRAM), IN_TURN, lambda free: hand)
        # At first free, then over by its count, then by its end.
        self.refused(errors.NoHand, played, Works(PROGRAM), ([1, 1, 1], []), lambda free: 0)
        self.refused(errors.NoHand, played, Works(PROGRAM), ([3, 1, 1], []), lambda free: 0)
        self.refused(errors.NoHand, played, Works(PROGRAM), LOOSE, lambda free: -1)

    def test_truths_are_no_hands(self):
        for hand in [True, False]:
            self.refused(errors.NoHand, played, Works(PROGRAM), LOOSE, lambda free: hand)

    def test_no_hand_is_free_at_first(self):
        def never(free):
            raise RuntimeError("no hand is free")

        for record in [([0, 0, 0], []), ([1, 1, 0], [(0, 0, 1, 0), (1, 0, 0, 0)])]:
            self.assertEqual(played(Works(PROGRAM), record, never), [])
        works = turned(Works(PROGRAM), [0, 0, 1, 1, 2, 2])
        self.assertEqual(played(works, IN_TURN, never), [])
        self.assertEqual(played(Works(read("cells 1\nhand\nhand\ngo 0")), ([2, 3], []), never), [])

    def test_counts_are_left(self):
        self.assertEqual(played(Works(PROGRAM), ([9, 1, 0], []), lowest), [0, 0, 1])
        # Hand 1 waits for a touch that hand 0 has not.
        self.assertEqual(played(Works(PROGRAM), ([9, 1, 1], [(0, 2, 1, 0)]), lowest), [0, 0, 2])

    def test_rings(self):
        record = ([2, 2, 2], [(0, 1, 1, 1), (1, 1, 0, 1), (1, 0, 2, 1)])
        self.assertEqual(played(Works(PROGRAM), record, highest), [2, 1, 2, 0])

    def test_amid(self):
        works = turned(Works(PROGRAM), [0, 2])
        self.assertEqual(played(works, ([1, 2, 1], [(1, 1, 0, 0)]), lowest), [1, 1, 0, 2])

    def test_the_works_and_the_record_stay(self):
        works, record = turned(Works(PROGRAM), [0]), copy.deepcopy(LOOSE)
        twin = works.twin()
        played(works, record, lowest)
        self.assertEqual((works, record), (twin, LOOSE))
        self.refused(errors.NoHand, played, works, record, lambda free: 0)
        self.assertEqual((works, record), (twin, LOOSE))
        self.assertEqual(played(works, record, highest), played(works, record, highest))

    def test_what_the_def_does_to_the_works_and_the_record(self):
        works, record = Works(PROGRAM), copy.deepcopy(LOOSE)

        def choose(free):
            record[0].clear()
            record[1].append((0, 0, 1, 0))
            if works.how(0) == "waits":
                works.turn(0)
            return free[-1]

        self.assertEqual(played(works, record, choose), [2, 2, 1, 1, 0, 0])

    def test_the_order_is_the_askers_own(self):
        told = played(Works(PROGRAM), LOOSE, lowest)
        self.assertIs(type(told), list)
        told.clear()
        self.assertEqual(played(Works(PROGRAM), LOOSE, lowest), [0, 0, 1, 1, 2, 2])

    def test_what_the_def_refuses_is_not_taken(self):
        def choose(free):
            raise errors.NoPlace("not told of here")

        self.refused(errors.NoPlace, played, Works(PROGRAM), LOOSE, choose)

    def test_against_the_definition(self):
        chance = random.Random(2)
        for turn in range(200):
            hands = chance.randrange(1, 5)
            works = Works(some_program(chance, hands))
            record = some_record(chance, hands)
            handed, chosen = [], []

            def choose(free):
                handed.append(list(free))
                chosen.append(chance.choice(free))
                return chosen[-1]

            self.assertEqual(played(works, record, choose), chosen)
            done = hands * [0]
            for free, hand in zip(handed, chosen):
                self.assertEqual(free, [one for one in range(hands) if refusal(record, done, works, one) is None])
                works.turn(hand)
                done[hand] += 1
            self.assertTrue(all(refusal(record, done, works, hand) for hand in range(hands)))


if __name__ == "__main__":
    unittest.main()
