"""Points 2, 3 and 30 to 32: records cut and joined, both ways."""

import copy
import itertools
import random
import unittest

from fewnotes import errors
from fewnotes.cuts import is_cut
from fewnotes.notes import notes
from fewnotes.programs import read
from fewnotes.records import across, both_ways, cut_record, record_of
from fewnotes.webs import touches_of, web_of
from fewnotes.works import Works

LOAD, STORE, SWAP = "load", "store", "swap"
BIG = 10 ** 29

# Hand 0 stores, hands 1 and 2 load that, hand 0 stores again; then hand 1, by another cell, is told of by hand 2.
WEB = [(0, STORE, 0), (1, LOAD, 0), (2, LOAD, 0), (0, SWAP, 0), (1, STORE, 1), (2, LOAD, 1), (2, LOAD, 0)]
NOTES = [(0, 0, 1, 0), (0, 0, 2, 0), (0, 1, 2, 2), (1, 0, 0, 1), (1, 1, 2, 1), (2, 0, 0, 1)]
RECORD = ([2, 2, 3], NOTES)

RACE = read("cells 1\nhand\nload a 0\nstore 0 a+1\nhand\nload a 0\nstore 0 a+1")


class Refusing(unittest.TestCase):
    def refused(self, error, deed, *given):
        with self.assertRaises(errors.NoteError, msg=repr(given)) as taken:
            deed(*given)
        self.assertIs(type(taken.exception), error, given)


def some_web(chance, length, hands, cells):
    return [(chance.randrange(hands), chance.choice([LOAD, STORE, SWAP]), chance.randrange(cells))
            for place in range(length)]


def some_record(chance, hands):
    """A record whatever its notes say, at times with one of them twice."""
    counts = [chance.randrange(5) for hand in range(hands)]
    touches = [(hand, k) for hand, count in enumerate(counts) for k in range(count)]
    pairs = [one + other for one in touches for other in touches if one[0] != other[0]]
    return counts, [chance.choice(pairs) for note in range(chance.randrange(7) if pairs else 0)]


def named(web):
    return [(touch[0], len([one for one in web[:place] if one[0] == touch[0]])) for place, touch in enumerate(web)]


def meeting(one, other):
    return one[0] != other[0] and one[2] == other[2] and {one[1], other[1]} != {LOAD}


def behind(web):
    """For each place all that come behind it by some way."""
    ways = [set() for touch in web]
    for one in reversed(range(len(web))):
        for other in range(one + 1, len(web)):
            if web[one][0] == web[other][0] or meeting(web[one], web[other]):
                ways[one] |= {other} | ways[other]
    return ways


def noted_places(web):
    """The two places of each note, by its definition: no way but the step itself."""
    ways = behind(web)
    return [(one, other) for one, other in itertools.combinations(range(len(web)), 2) if meeting(web[one], web[other])
            and not any(place in ways[one] and other in ways[place] for place in range(one + 1, other))]


def due_notes(web):
    names = named(web)
    return sorted(names[one] + names[other] for one, other in noted_places(web))


def counted(hands, web):
    return [[touch[0] for touch in web].count(hand) for hand in range(hands)]


class RecordOf(Refusing):
    def test_some(self):
        self.assertEqual(record_of(3, WEB), RECORD)

    def test_more_hands_than_in_the_web(self):
        for hands in range(3, 9):
            self.assertEqual(record_of(hands, WEB), ([2, 2, 3] + (hands - 3) * [0], NOTES))

    def test_no_touch(self):
        for hands in range(9):
            self.assertEqual(record_of(hands, []), (hands * [0], []))

    def test_one_to_eight_hands(self):
        for hands in range(1, 9):
            web = [(hand, STORE, 0) for hand in reversed(range(hands))]
            some = [(hand + 1, 0, hand, 0) for hand in range(hands - 1)]
            self.assertEqual(record_of(hands, web), (hands * [1], some))
            self.refused(errors.NoHand, record_of, hands - 1, web)

    def test_another_number(self):
        for hands in [9, 10, -1, -2, -8, BIG, -BIG]:
            self.refused(errors.NoHand, record_of, hands, [])
            self.refused(errors.NoHand, record_of, hands, WEB)

    def test_a_touch_of_a_hand_beyond(self):
        for hands in [0, 1, 2]:
            self.refused(errors.NoHand, record_of, hands, WEB)
        for hand in [3, 4, 8, -1, BIG]:
            for place in [0, 4, 7]:
                self.refused(errors.NoHand, record_of, 3, WEB[:place] + [(hand, LOAD, 9)] + WEB[place:])
        self.refused(errors.NoHand, record_of, 0, [(0, LOAD, 0)])

    def test_truths_are_no_numbers(self):
        for hands in [True, False]:
            self.refused(errors.NoHand, record_of, hands, [])

    def test_against_the_definition(self):
        chance = random.Random(1)
        for turn in range(100):
            hands = chance.randrange(1, 9)
            web = some_web(chance, chance.randrange(20), hands, 3)
            self.assertEqual(record_of(hands, web), (counted(hands, web), due_notes(web)))

    def test_three_hundred_touches(self):
        web = some_web(random.Random(2), 300, 8, 20)
        self.assertEqual(record_of(8, web), (counted(8, web), notes(web)))

    def test_kinds(self):
        told = record_of(3, WEB)
        self.assertEqual([type(told), type(told[0]), type(told[1])], [tuple, list, list])
        self.assertTrue(all(type(note) is tuple for note in told[1]))

    def test_copies(self):
        web = list(WEB)
        told = record_of(3, web)
        web.clear()
        self.assertEqual(told, RECORD)
        told[0].clear()
        told[1].reverse()
        self.assertEqual(record_of(3, WEB), RECORD)
        kept = list(WEB)
        record_of(3, kept)
        self.refused(errors.NoHand, record_of, 2, kept)
        self.assertEqual(kept, WEB)


class CutRecord(Refusing):
    def test_some(self):
        for cut, first, second in [
            ([0, 0, 0], ([0, 0, 0], []), RECORD),
            ([2, 2, 3], RECORD, ([0, 0, 0], [])),
            ([1, 0, 0], ([1, 0, 0], []), ([1, 2, 3], [(0, 0, 2, 2), (1, 0, 0, 0), (1, 1, 2, 1), (2, 0, 0, 0)])),
            ([1, 2, 1], ([1, 2, 1], [(0, 0, 1, 0), (0, 0, 2, 0)]), ([1, 0, 2], [(0, 0, 2, 1)])),
            ([2, 1, 1], ([2, 1, 1], [(0, 0, 1, 0), (0, 0, 2, 0), (1, 0, 0, 1), (2, 0, 0, 1)]),
             ([0, 1, 2], [(1, 0, 2, 0)])),
        ]:
            self.assertEqual(cut_record(RECORD, cut), (first, second))

    def test_notes_stand_as_they_stood(self):
        some = [(1, 2, 0, 2), (0, 0, 1, 0), (1, 2, 0, 2), (0, 1, 1, 1), (0, 0, 1, 0), (0, 2, 1, 3), (0, 0, 1, 2),
                (0, 1, 1, 3), (0, 0, 1, 0), (1, 2, 0, 2)]
        self.assertEqual(cut_record(([3, 4], some), [2, 2]),
                         (([2, 2], [(0, 0, 1, 0), (0, 1, 1, 1), (0, 0, 1, 0), (0, 0, 1, 0)]),
                          ([1, 2], [(1, 0, 0, 0), (1, 0, 0, 0), (0, 0, 1, 1), (1, 0, 0, 0)])))

    def test_notes_over_the_cut_stand_in_neither(self):
        self.assertEqual(cut_record(([1, 1], 3 * [(0, 0, 1, 0)]), [1, 0]), (([1, 0], []), ([0, 1], [])))

    def test_no_hand_and_no_touch(self):
        self.assertEqual(cut_record(([], []), []), (([], []), ([], [])))
        self.assertEqual(cut_record(([0, 0], []), [0, 0]), (([0, 0], []), ([0, 0], [])))

    def test_notes_that_go_round(self):
        record = ([2, 2], [(0, 1, 1, 0), (1, 1, 0, 0)])
        self.assertEqual(cut_record(record, [0, 0]), (([0, 0], []), record))
        self.assertEqual(cut_record(record, [2, 2]), (record, ([0, 0], [])))
        self.refused(errors.NoCut, cut_record, record, [1, 1])

    def test_no_cut(self):
        for cut in [[0, 1, 0], [0, 0, 1], [2, 0, 0], [2, 1, 0], [1, 1, 2], [2, 1, 2], [1, 2, 3], [2, 2, 0]]:
            self.refused(errors.NoCut, cut_record, RECORD, cut)

    def test_no_list_of_numbers_for_the_hands(self):
        for cut in [[], [0], [0, 0], [0, 0, 0, 0], 3000 * [0], [-1, 0, 0], [0, -1, 0], [0, 0, -1], [3, 2, 3], [2, 3, 3],
                    [2, 2, 4], [BIG, 0, 0], [0, -BIG, 0]]:
            self.refused(errors.NoCut, cut_record, RECORD, cut)
        self.refused(errors.NoCut, cut_record, ([], []), [0])

    def test_truths_and_tuples_are_no_cuts(self):
        self.refused(errors.NoCut, cut_record, RECORD, [True, 0, 0])
        self.refused(errors.NoCut, cut_record, RECORD, (0, 0, 0))

    def test_no_note_goes_ahead(self):
        for note in [(3, 0, 1, 0), (0, 0, 3, 0), (-1, 0, 1, 0), (0, 0, -1, 0), (0, 0, 0, 1), (0, 2, 1, 0),
                     (0, -1, 1, 0), (0, 0, 1, 2), (0, 0, 1, -1), (BIG, 0, 1, 0), (0, 0, 1, BIG), (2, 0, 2, 1)]:
            for some in [[note], NOTES + [note], [note] + NOTES]:
                for cut in [[0, 0, 0], [2, 2, 3], [0, 1, 0], [], [0, 0, 0, 0], [-1, 0, 0], [9, 9, 9]]:
                    self.refused(errors.NoNote, cut_record, ([2, 2, 3], some), cut)

    def test_against_the_definition(self):
        chance = random.Random(3)
        seen = 0
        for turn in range(400):
            record = some_record(chance, chance.randrange(4))
            for cut in itertools.product(*[range(count + 1) for count in record[0]]):
                cut = list(cut)
                if not is_cut(record, cut):
                    self.refused(errors.NoCut, cut_record, record, cut)
                    continue
                inside = [(h, k, o, m) for h, k, o, m in record[1] if k < cut[h] and m < cut[o]]
                outside = [(h, k - cut[h], o, m - cut[o]) for h, k, o, m in record[1] if k >= cut[h] and m >= cut[o]]
                left = [count - done for count, done in zip(record[0], cut)]
                self.assertEqual(cut_record(record, cut), ((cut, inside), (left, outside)))
                seen += bool(inside and outside)
        self.assertGreater(seen, 100)

    def test_three_hundred_touches(self):
        web = some_web(random.Random(4), 300, 8, 3)
        record = record_of(8, web)
        for length in [0, 1, 100, 299, 300]:
            first, second = cut_record(record, counted(8, web[:length]))
            self.assertEqual(first, record_of(8, web[:length]))
            self.assertEqual(second, record_of(8, web[length:]))

    def test_kinds(self):
        told = cut_record(RECORD, [1, 2, 1])
        self.assertIs(type(told), tuple)
        for part in told:
            self.assertEqual([type(part), type(part[0]), type(part[1])], [tuple, list, list])
            self.assertTrue(all(type(note) is tuple for note in part[1]))

    def test_copies(self):
        record, cut = copy.deepcopy(RECORD), [1, 2, 1]
        told = cut_record(record, cut)
        kept = copy.deepcopy(told)
        self.assertEqual((record, cut), (RECORD, [1, 2, 1]))
        cut.clear()
        record[0].clear()
        record[1].clear()
        self.assertEqual(told, kept)
        record, cut = copy.deepcopy(RECORD), [2, 2, 3]
        for part in cut_record(record, cut) + cut_record(record, [0, 0, 0]):
            part[0].append(9)
            part[1].append((0, 0, 1, 0))
        self.assertEqual((record, cut), (RECORD, [2, 2, 3]))
        self.assertEqual(cut_record(record, [1, 2, 1]), kept)

    def test_nothing_is_changed_by_a_refusal(self):
        record, cut = copy.deepcopy(RECORD), [0, 1, 0]
        self.refused(errors.NoCut, cut_record, record, cut)
        self.assertEqual((record, cut), (RECORD, [0, 1, 0]))


class Across(unittest.TestCase):
    def test_some(self):
        for length, due in [(0, []), (1, [(0, 0, 1, 0), (0, 0, 2, 0)]), (2, [(0, 0, 2, 0), (1, 0, 0, 1)]),
                            (3, [(1, 0, 0, 1), (2, 0, 0, 1)]), (4, [(0, 1, 2, 2)]),
                            (5, [(0, 1, 2, 2), (1, 1, 2, 1)]), (6, [(0, 1, 2, 2)]), (7, [])]:
            self.assertEqual(across(WEB[:length], WEB[length:]), due, length)

    def test_empty_webs(self):
        self.assertEqual(across([], []), [])
        self.assertEqual(across([], WEB), [])
        self.assertEqual(across(WEB, []), [])

    def test_a_way_through_either_web(self):
        # From (0, 0) a way leads on over hand 1, in the first web or in the second.
        through = [(0, STORE, 0), (1, SWAP, 0), (1, STORE, 1)], [(2, LOAD, 1), (2, STORE, 0)]
        self.assertEqual(across(*through), [(1, 1, 2, 0)])
        through = [(0, STORE, 0)], [(1, SWAP, 0), (1, STORE, 1), (2, LOAD, 1), (2, STORE, 0)]
        self.assertEqual(across(*through), [(0, 0, 1, 0)])

    def test_counted_through(self):
        one = [(0, LOAD, 0), (0, STORE, 0), (1, LOAD, 5)]
        other = [(1, LOAD, 0), (0, LOAD, 1), (1, STORE, 1)]
        self.assertEqual(across(one, other), [(0, 1, 1, 1)])
        self.assertEqual(notes(one + other), [(0, 1, 1, 1), (0, 2, 1, 2)])

    def test_a_web_behind_itself(self):
        web = [(0, STORE, 0), (1, STORE, 0)]
        self.assertEqual(across(web, web), [(1, 0, 0, 1)])
        self.assertEqual(web, [(0, STORE, 0), (1, STORE, 0)])

    def test_by_numbers(self):
        one = [(hand, LOAD, 0) for hand in [4, 1, 3, 0, 2]]
        self.assertEqual(across(one, [(5, STORE, 0)]), [(hand, 0, 5, 0) for hand in range(5)])

    def test_the_three_make_the_whole(self):
        chance = random.Random(5)
        seen = 0
        for turn in range(500):
            hands = chance.randrange(1, 6)
            one = some_web(chance, chance.randrange(12), hands, 3)
            other = some_web(chance, chance.randrange(12), hands, 3)
            told = across(one, other)
            counts = counted(hands, one)
            counted_on = [(h, k + counts[h], o, m + counts[o]) for h, k, o, m in due_notes(other)]
            self.assertEqual(sorted(due_notes(one) + counted_on + told), due_notes(one + other))
            names = named(one + other)
            self.assertEqual(told, sorted(names[first] + names[second] for first, second in noted_places(one + other)
                                          if first < len(one) <= second))
            seen += len(told)
        self.assertGreater(seen, 300)

    def test_the_record_is_cut_at_the_first_web(self):
        chance = random.Random(6)
        for turn in range(50):
            one, other = some_web(chance, 8, 3, 3), some_web(chance, 8, 3, 3)
            record = record_of(3, one + other)
            parts = cut_record(record, counted(3, one))
            self.assertEqual(parts, (record_of(3, one), record_of(3, other)))
            self.assertEqual(len(record[1]), len(parts[0][1]) + len(parts[1][1]) + len(across(one, other)))

    def test_three_hundred_touches(self):
        web = some_web(random.Random(7), 300, 8, 20)
        names = named(web)
        told = across(web[:150], web[150:])
        self.assertTrue(told)
        self.assertEqual(told, [note for note in notes(web)
                                if names.index(note[:2]) < 150 <= names.index(note[2:])])

    def test_kinds_and_copies(self):
        one, other = WEB[:3], WEB[3:]
        told = across(one, other)
        self.assertIs(type(told), list)
        self.assertTrue(all(type(note) is tuple for note in told))
        self.assertEqual(one + other, WEB)
        told.clear()
        self.assertEqual(across(one, other), [(1, 0, 0, 1), (2, 0, 0, 1)])
        told = across(one, other)
        one.clear()
        other.clear()
        self.assertEqual(told, [(1, 0, 0, 1), (2, 0, 0, 1)])


class BothWays(Refusing):
    def test_a_race(self):
        order = [0, 1, 0, 1]
        self.assertEqual(both_ways(RACE, order, (1, 0, 0, 1)),
                         ([0], ((LOAD, 0, 0, None), (STORE, 0, None, 1)), ((STORE, 0, None, 1), (LOAD, 0, 1, None))))
        self.assertEqual(both_ways(RACE, order, (0, 1, 1, 1)),
                         ([0, 1], ((STORE, 0, None, 1), (STORE, 0, None, 1)),
                          ((STORE, 0, None, 1), (STORE, 0, None, 1))))

    def test_first_numbers_by_place_by_name_and_none(self):
        order, note = [0, 1, 0, 1], (1, 0, 0, 1)
        due = ([0], ((LOAD, 0, 40, None), (STORE, 0, None, 41)), ((STORE, 0, None, 41), (LOAD, 0, 41, None)))
        self.assertEqual(both_ways(RACE, order, note, [40]), due)
        self.assertEqual(both_ways(RACE, order, note, cells=[40]), due)
        self.assertEqual(both_ways(RACE, order, note, None), both_ways(RACE, order, note))
        self.assertEqual(both_ways(RACE, order, note, cells=None), both_ways(RACE, order, note, [0]))

    def test_the_turns_ahead_in_the_runs_order(self):
        program = read("cells 3" + 3 * "\nhand\nload a 0\nswap b 1 a+1\nstore 2 b+1")
        # Hands 2, 1 and 0 swap in this order, and the loads are of no account.
        order = [0, 1, 2, 2, 1, 0, 1, 2, 0]
        self.assertEqual(both_ways(program, order, (1, 1, 0, 1)),
                         ([0, 1, 2, 2], ((SWAP, 1, 1, 1), (SWAP, 1, 1, 1)), ((SWAP, 1, 1, 1), (SWAP, 1, 1, 1))))
        self.assertEqual(both_ways(program, order, (2, 1, 1, 1)),
                         ([1, 2], ((SWAP, 1, 0, 1), (SWAP, 1, 1, 1)), ((SWAP, 1, 0, 1), (SWAP, 1, 1, 1))))
        self.assertEqual(both_ways(program, order, (2, 2, 0, 2), [9, 5, 0]),
                         ([0, 1, 2, 2, 1, 0, 1], ((STORE, 2, None, 6), (STORE, 2, None, 11)),
                          ((STORE, 2, None, 11), (STORE, 2, None, 6))))

    def test_what_need_not_come_ahead_is_left_out(self):
        program = read("cells 2\nhand\nstore 0 7\nhand\nstore 1 8\nload a 1\nload a 0\nhand\nstore 1 9")
        order = [2, 1, 1, 0, 1]
        self.assertEqual(both_ways(program, order, (0, 0, 1, 2)),
                         ([2, 1, 1], ((STORE, 0, None, 7), (LOAD, 0, 7, None)),
                          ((LOAD, 0, 0, None), (STORE, 0, None, 7))))
        self.assertEqual(both_ways(program, order, (2, 0, 1, 0)),
                         ([], ((STORE, 1, None, 9), (STORE, 1, None, 8)), ((STORE, 1, None, 8), (STORE, 1, None, 9))))

    def test_what_is_behind_is_left_out(self):
        # The later turns of both hands are neither ahead nor done.
        self.assertEqual(both_ways(RACE, [0, 0, 1, 1], (0, 1, 1, 0)),
                         ([0], ((STORE, 0, None, 1), (LOAD, 0, 1, None)), ((LOAD, 0, 0, None), (STORE, 0, None, 1))))

    def test_refused_as_the_run(self):
        note = (1, 0, 0, 1)
        for cells in [[], [0, 0], [1000], [-1], [BIG]]:
            for order in [[0, 1, 0, 1], [7], [0, 0, 0]]:
                for each in [note, (9, 9, 9, 9)]:
                    self.refused(errors.NoNumber, both_ways, RACE, order, each, cells)
        for each in [note, (9, 9, 9, 9)]:
            for order in [[2], [0, -1], [0, 1, BIG], [0, 1, 0, 1, 2], [8, 0, 0, 0], [-BIG]]:
                self.refused(errors.NoHand, both_ways, RACE, order, each)
            for order in [[0, 0, 0], [0, 1, 0, 1, 1], [0, 0, 0, 2]]:
                self.refused(errors.Over, both_ways, RACE, order, each)
        self.refused(errors.NoHand, both_ways, RACE, [0, 0, 2, 0], note)

    def test_no_note(self):
        # Wants that are no notes, notes the other way about, touches that don't meet or are not there, one hand.
        for note in [(0, 0, 1, 1), (0, 1, 1, 0), (1, 1, 0, 1), (0, 1, 1, 2), (0, 0, 1, 0), (1, 0, 0, 0), (0, 0, 0, 1),
                     (2, 0, 0, 1), (0, 1, 2, 1), (-1, 0, 0, 1), (1, -1, 0, 1), (BIG, 0, 0, 1), (1, 0, 0, -BIG)]:
            self.refused(errors.NoNote, both_ways, RACE, [0, 1, 0, 1], note)
            self.refused(errors.NoNote, both_ways, RACE, [0, 1, 0, 1], note, [3])
        self.refused(errors.NoNote, both_ways, RACE, [], (1, 0, 0, 1))
        self.refused(errors.NoNote, both_ways, RACE, [0, 1], (1, 0, 0, 1))

    def test_truths_are_no_numbers(self):
        self.refused(errors.NoNote, both_ways, RACE, [0, 1, 0, 1], (True, 0, 0, 1))

    def test_against_the_definition(self):
        chance = random.Random(8)
        seen = 0
        for turn in range(120):
            rows = ["load a 0", "load b 1", "store 0 a+3", "store 1 b+a", "swap a 1 b+1", "swap b 0 a+2", "let a a+1"]
            lines = ["cells 2"]
            for hand in range(3):
                lines += ["hand"] + [chance.choice(rows) for row in range(6)] + ["load a 0", "go 0"]
            program, order = read("\n".join(lines)), [chance.randrange(3) for turn in range(12)]
            cells = [chance.randrange(1000), chance.randrange(1000)]
            web = web_of(program, order, cells)
            names, ways, touches = named(web), behind(web), touches_of(program, order, cells)
            for one, other in noted_places(web):
                note = names[one] + names[other]
                ahead = [place for place in range(len(web)) if place not in (one, other)
                         and (one in ways[place] or other in ways[place])]
                hands, first, second = both_ways(program, order, note, cells)
                self.assertEqual(hands, [order[place] for place in ahead])
                self.assertEqual(first, (touches[note[0]][note[1]], touches[note[2]][note[3]]))
                works = Works(program, cells)
                for hand in hands:
                    works.turn(hand)
                self.assertEqual(second, (works.turn(note[2]), works.turn(note[0])))
                self.assertEqual([touch[:2] for touch in second], [touch[:2] for touch in first[::-1]])
                seen += second != first[::-1]
        self.assertGreater(seen, 300)

    def test_three_hundred_touches(self):
        program = read("cells 1" + 2 * "\nhand\nswap a 0 a+1\ngo 0")
        order = 150 * [0, 1]
        hands, first, second = both_ways(program, order, (0, 149, 1, 149))
        self.assertEqual(hands, order[:-2])
        self.assertEqual(first, tuple(each[-1] for each in touches_of(program, order)))
        self.assertEqual(second[1][2], second[0][3])

    def test_kinds(self):
        told = both_ways(RACE, [0, 1, 0, 1], (1, 0, 0, 1))
        self.assertEqual([type(told), len(told)], [tuple, 3])
        self.assertEqual([type(part) for part in told], [list, tuple, tuple])
        self.assertTrue(all(type(touch) is tuple for touch in told[1] + told[2]))

    def test_copies(self):
        program, order, cells = copy.deepcopy(RACE), [0, 1, 0, 1], [40]
        told = both_ways(program, order, (0, 1, 1, 1), cells)
        kept = copy.deepcopy(told)
        self.assertEqual((program, order, cells), (RACE, [0, 1, 0, 1], [40]))
        order.clear()
        cells.clear()
        program[1].clear()
        self.assertEqual(told, kept)
        told[0].append(5)
        self.assertEqual(both_ways(RACE, [0, 1, 0, 1], (0, 1, 1, 1), [40]), kept)


if __name__ == "__main__":
    unittest.main()
