"""Points 2, 3, 18, 19 and 20: strict notes."""

import copy
import itertools
import random
import unittest

from fewnotes import errors
from fewnotes.notes import enough, notes
from fewnotes.strict import apart_shows, meets_want, strict_notes, wants_apart

LOAD, STORE, SWAP = "load", "store", "swap"

# Places 0 to 8: hand 0 at 0, 1, 3, 5; hand 1 at 2, 4, 6, 8; hand 2 at 7.
WEB = [(0, LOAD, 9), (0, STORE, 0), (1, LOAD, 9), (0, LOAD, 9), (1, LOAD, 0), (0, LOAD, 9), (1, LOAD, 9), (2, LOAD, 0),
       (1, LOAD, 8)]
WANT = (0, 1, 1, 1)

# What is no strict note of WEB, by each of the faults.
NO_NOTES = [
    (3, 0, 1, 0), (0, 0, 3, 0), (-1, 0, 1, 0), (0, 0, -1, 0), (10 ** 29, 0, 1, 0), (0, 0, -10 ** 29, 0),
    (0, 0, 0, 1), (1, 1, 1, 2), (2, 0, 2, 0),
    (0, -1, 1, 0), (0, 0, 1, -1), (0, 4, 2, 0), (0, 0, 1, 4), (0, 0, 2, 1), (0, 10 ** 29, 1, 0), (0, 0, 1, 10 ** 29),
    (1, 0, 0, 0), (1, 1, 0, 1), (1, 3, 2, 0), (0, 2, 1, 0), (0, 3, 1, 1), (2, 0, 1, 2),
]

# Strict notes of WEB between touches that don't meet: two loads, two cells.
NO_WANTS = [(0, 0, 1, 0), (0, 0, 1, 2), (0, 1, 1, 0), (0, 1, 1, 3), (1, 1, 2, 0), (2, 0, 1, 3), (1, 0, 0, 2)]


class Refusing(unittest.TestCase):
    def refused(self, error, deed, *given):
        with self.assertRaises(errors.NoteError, msg=repr(given)) as taken:
            deed(*given)
        self.assertIs(type(taken.exception), error, given)


def some_web(chance, length, hands, cells):
    return [(chance.randrange(hands), chance.choice([LOAD, STORE, SWAP]), chance.randrange(cells))
            for place in range(length)]


def named(web):
    return [(touch[0], len([one for one in web[:place] if one[0] == touch[0]])) for place, touch in enumerate(web)]


def meeting(web, one, other):
    return web[one][0] != web[other][0] and web[one][2] == web[other][2] and {web[one][1], web[other][1]} != {LOAD}


def all_strict(web):
    names = named(web)
    return [names[one] + names[other] for one, other in itertools.combinations(range(len(web)), 2)
            if web[one][0] != web[other][0]]


def all_wants(web):
    names = named(web)
    return [names[one] + names[other] for one, other in itertools.combinations(range(len(web)), 2)
            if meeting(web, one, other)]


def met(note, want):
    """Whether the strict note meets the want, said as the document says it."""
    return (note[0], note[2]) == (want[0], want[2]) and note[1] >= want[1] and note[3] <= want[3]


def found(web):
    """The wants and notes of point 19, by the hands, then in the order found."""
    told = []
    strict, wants = all_strict(web), all_wants(web)
    names = named(web)
    for hand, other in itertools.permutations(range(8), 2):
        left = [want for want in wants if (want[0], want[2]) == (hand, other)]
        while left:
            second = min(want[3] for want in left)
            first = max(want[1] for want in left if want[3] == second)
            ahead = names[:names.index((other, second))]
            note = (hand, max(k for one, k in ahead if one == hand), other, second)
            assert note in strict
            told.append(((hand, first, other, second), note))
            left = [want for want in left if not met(note, want)]
    return told


def fewest(web, hand, other):
    """How many strict notes from the hand to the other meet all wants between them, by trying all."""
    wants = [want for want in all_wants(web) if (want[0], want[2]) == (hand, other)]
    strict = [note for note in all_strict(web) if (note[0], note[2]) == (hand, other)]
    for count in range(len(strict) + 1):
        for some in itertools.combinations(strict, count):
            if all(any(met(note, want) for note in some) for want in wants):
                return count


def due_apart(web, wants):
    known = all_wants(web)
    if not all(want in known for want in wants):
        return False
    return not any(met(note, one) and met(note, other) for one, other in itertools.combinations(wants, 2)
                   for note in all_strict(web))


class MeetsWant(Refusing):
    def meets(self, note, due, want=WANT, web=None):
        self.assertIs(meets_want(web or WEB, note, want), due, (note, want))

    def test_just_the_same_touches(self):
        self.meets(WANT, True)

    def test_a_later_first_one(self):
        self.meets((0, 2, 1, 1), True)

    def test_an_earlier_second_one(self):
        self.meets((0, 1, 1, 0), True)

    def test_both(self):
        web = [(0, STORE, 0), (0, LOAD, 5), (1, LOAD, 5), (1, LOAD, 0)]
        for note in [(0, 0, 1, 0), (0, 0, 1, 1), (0, 1, 1, 0), (0, 1, 1, 1)]:
            self.meets(note, True, (0, 0, 1, 1), web)

    def test_an_earlier_first_one(self):
        self.meets((0, 0, 1, 1), False)
        self.meets((0, 0, 1, 0), False)

    def test_a_later_second_one(self):
        self.meets((0, 1, 1, 2), False)
        self.meets((0, 2, 1, 2), False)
        self.meets((0, 3, 1, 3), False)

    def test_both_too_wide(self):
        self.meets((0, 0, 1, 2), False)

    def test_from_another_hand(self):
        web = [(2, LOAD, 9), (2, LOAD, 9), (0, STORE, 0), (1, LOAD, 0)]
        self.meets((2, 0, 1, 0), False, (0, 0, 1, 0), web)
        self.meets((2, 1, 1, 0), False, (0, 0, 1, 0), web)

    def test_to_another_hand(self):
        self.meets((0, 1, 2, 0), False)
        self.meets(WANT, False, (0, 1, 2, 0))
        self.meets((0, 3, 2, 0), True, (0, 1, 2, 0))

    def test_the_other_way_about(self):
        self.meets((1, 0, 0, 2), False)
        web = [(0, STORE, 0), (1, STORE, 0), (0, STORE, 0), (1, STORE, 0)]
        self.meets((1, 0, 0, 1), False, (0, 0, 1, 0), web)

    def test_against_the_definition(self):
        chance = random.Random(1)
        for turn in range(60):
            web = some_web(chance, 7, 3, 2)
            for note, want in itertools.product(all_strict(web), all_wants(web)):
                self.assertIs(meets_want(web, note, want), met(note, want), (web, note, want))

    def test_no_strict_note(self):
        for note in NO_NOTES:
            self.refused(errors.NoNote, meets_want, WEB, note, WANT)

    def test_no_want(self):
        for want in NO_NOTES + NO_WANTS:
            self.refused(errors.NoNote, meets_want, WEB, WANT, want)
            self.refused(errors.NoNote, meets_want, WEB, (0, 0, 1, 0), want)
        for note in NO_WANTS:
            self.assertIn(meets_want(WEB, note, WANT), [True, False])

    def test_the_later_one_first(self):
        web = [(0, STORE, 0), (1, STORE, 0)]
        self.refused(errors.NoNote, meets_want, web, (1, 0, 0, 0), (0, 0, 1, 0))
        self.refused(errors.NoNote, meets_want, web, (0, 0, 1, 0), (1, 0, 0, 0))
        self.refused(errors.NoNote, meets_want, web, (1, 0, 0, 0), (1, 0, 0, 0))

    def test_neither(self):
        self.refused(errors.NoNote, meets_want, WEB, (3, 0, 1, 0), (0, 0, 1, 0))
        self.refused(errors.NoNote, meets_want, [], (0, 0, 1, 0), (0, 0, 1, 0))

    def test_truths_and_other_forms_are_no_notes(self):
        web = [(0, STORE, 0), (1, STORE, 0)]
        for note in [(False, 0, 1, 0), (0, 0, True, 0), (0, 0, 1), [0, 0, 1, 0]]:
            self.refused(errors.NoNote, meets_want, web, note, (0, 0, 1, 0))
            self.refused(errors.NoNote, meets_want, web, (0, 0, 1, 0), note)

    def test_nothing_is_changed(self):
        web = copy.deepcopy(WEB)
        self.assertIs(meets_want(web, WANT, WANT), True)
        self.assertEqual(web, WEB)
        self.assertIs(meets_want(web, WANT, WANT), True)


class Strict(unittest.TestCase):
    def tells(self, web, strict, apart):
        self.assertEqual(strict_notes(web), strict)
        self.assertEqual(wants_apart(web), apart)
        self.assertIs(type(strict_notes(web)), list)
        self.assertIs(type(wants_apart(web)), list)

    def test_none(self):
        self.tells([], [], [])
        self.tells([(0, STORE, 0)], [], [])
        self.tells(9 * [(3, SWAP, 0)], [], [])
        self.tells([(0, LOAD, 0), (1, LOAD, 0), (2, STORE, 1)], [], [])

    def test_one(self):
        self.tells([(0, STORE, 0), (1, LOAD, 0)], [(0, 0, 1, 0)], [(0, 0, 1, 0)])

    def test_from_the_last_touch_ahead_of_the_second_one(self):
        self.tells(WEB, [(0, 2, 1, 1), (0, 3, 2, 0)], [(0, 1, 1, 1), (0, 1, 2, 0)])

    def test_one_note_for_several_wants(self):
        web = [(0, STORE, 0), (0, STORE, 1), (1, LOAD, 0), (1, LOAD, 1)]
        self.assertEqual(notes(web), [(0, 0, 1, 0), (0, 1, 1, 1)])
        self.tells(web, [(0, 1, 1, 0)], [(0, 0, 1, 0)])

    def test_wants_that_end_at_one_touch(self):
        # The stores at (0, 0) and (0, 2) both meet (1, 0): the later one is what the note is found by.
        web = [(0, STORE, 0), (0, LOAD, 9), (0, STORE, 0), (0, LOAD, 9), (1, STORE, 0), (0, LOAD, 0)]
        self.tells(web, [(0, 3, 1, 0), (1, 0, 0, 4)], [(0, 2, 1, 0), (1, 0, 0, 4)])

    def test_several_in_turn(self):
        web = 3 * [(0, STORE, 0), (0, LOAD, 5), (1, LOAD, 0), (1, LOAD, 5)]
        self.tells(web, [(0, 1, 1, 0), (0, 3, 1, 2), (0, 5, 1, 4), (1, 1, 0, 2), (1, 3, 0, 4)],
                   [(0, 0, 1, 0), (0, 2, 1, 2), (0, 4, 1, 4), (1, 0, 0, 2), (1, 2, 0, 4)])

    def test_a_want_from_ahead_of_the_last_note_is_met_by_it(self):
        web = [(0, STORE, 0), (0, STORE, 1), (1, LOAD, 1), (0, STORE, 2), (1, LOAD, 0), (1, LOAD, 2)]
        self.tells(web, [(0, 1, 1, 0), (0, 2, 1, 2)], [(0, 1, 1, 0), (0, 2, 1, 2)])

    def test_each_two_hands_by_themselves(self):
        # By way of hand 1 hand 2 is told of hand 0, and yet there is a note from 0 to 2 as well.
        web = [(0, STORE, 0), (1, SWAP, 0), (2, LOAD, 0)]
        self.assertEqual(notes(web), [(0, 0, 1, 0), (1, 0, 2, 0)])
        self.tells(web, [(0, 0, 1, 0), (0, 0, 2, 0), (1, 0, 2, 0)], [(0, 0, 1, 0), (0, 0, 2, 0), (1, 0, 2, 0)])

    def test_wants_by_the_one_hand_then_the_other_then_as_found(self):
        web = [(2, STORE, 0), (1, STORE, 0), (0, STORE, 0)] + 11 * [(1, STORE, 0), (0, STORE, 0)] + [(2, STORE, 0)]
        due = [want for want, note in found(web)]
        self.assertEqual([(want[0], want[2]) for want in due], sorted((want[0], want[2]) for want in due))
        self.assertEqual(due[0], (0, 0, 1, 1))
        self.tells(web, sorted(note for want, note in found(web)), due)

    def test_notes_are_sorted_by_numbers_not_as_found(self):
        web = [(0, STORE, 0), (2, STORE, 0), (0, STORE, 1), (1, STORE, 1)]
        # From 0 to 1 the note begins at (0, 1), from 0 to 2 at (0, 0).
        self.tells(web, [(0, 0, 2, 0), (0, 1, 1, 0)], [(0, 1, 1, 0), (0, 0, 2, 0)])

    def test_eight_hands(self):
        web = [(hand, SWAP, 0) for hand in range(8)]
        due = [(one, 0, other, 0) for one, other in itertools.combinations(range(8), 2)]
        self.tells(web, due, due)

    def test_against_the_definition(self):
        chance = random.Random(2)
        for turn in range(400):
            web = some_web(chance, chance.randrange(1, 14), chance.randrange(1, 5), chance.randrange(1, 4))
            due = found(web)
            self.assertEqual(strict_notes(web), sorted(note for want, note in due), web)
            self.assertEqual(wants_apart(web), [want for want, note in due], web)

    def test_three_hundred_touches(self):
        for hands, cells in [(8, 20), (2, 3)]:
            web = some_web(random.Random(cells), 300, hands, cells)
            due = found(web)
            self.assertEqual(strict_notes(web), sorted(note for want, note in due))
            self.assertEqual(wants_apart(web), [want for want, note in due])
            self.assertIs(enough(web, strict_notes(web)), True)
            self.assertIs(apart_shows(web, wants_apart(web)), True)

    def test_they_meet_all_wants_are_enough_and_are_the_fewest(self):
        chance = random.Random(3)
        for turn in range(150):
            web = some_web(chance, chance.randrange(2, 9), chance.randrange(2, 4), chance.randrange(1, 3))
            strict, apart = strict_notes(web), wants_apart(web)
            self.assertIs(enough(web, strict), True)
            for want in all_wants(web):
                self.assertTrue(any(met(note, want) for note in strict), (web, want))
            for hand, other in itertools.permutations(range(3), 2):
                count = len([note for note in strict if (note[0], note[2]) == (hand, other)])
                self.assertEqual(count, fewest(web, hand, other), (web, hand, other))
                self.assertEqual(count, len([want for want in apart if (want[0], want[2]) == (hand, other)]))
            self.assertTrue(due_apart(web, apart))

    def test_nothing_is_changed_and_told_anew(self):
        for deed in (strict_notes, wants_apart):
            web = copy.deepcopy(WEB)
            told = deed(web)
            kept = list(told)
            self.assertEqual(web, WEB)
            told.clear()
            self.assertEqual(deed(web), kept)
            told = deed(web)
            web.clear()
            self.assertEqual(told, kept)


class ApartShows(unittest.TestCase):
    # Hand 0 at places 0, 1, 4, 5, hand 1 at 2, 3, 6, 7, all storing to one cell.
    web = 2 * [(0, STORE, 0), (0, STORE, 0), (1, STORE, 0), (1, STORE, 0)]

    def shows(self, wants, due, web=None):
        self.assertIs(apart_shows(web or self.web, wants), due, wants)
        self.assertIs(apart_shows(web or self.web, list(reversed(wants))), due, wants)

    def test_the_empty_list(self):
        self.shows([], True)
        self.assertIs(apart_shows([], []), True)

    def test_one_want(self):
        for want in all_wants(self.web):
            self.shows([want], True)

    def test_wants_apart(self):
        self.assertEqual(wants_apart(self.web), [(0, 1, 1, 0), (0, 3, 1, 2), (1, 1, 0, 2)])
        self.shows(wants_apart(self.web), True)
        self.shows([(0, 1, 1, 0), (0, 3, 1, 2)], True)
        self.shows([(0, 1, 1, 1), (0, 2, 1, 2)], True)

    def test_fewer_than_can_be(self):
        self.shows([(0, 3, 1, 2), (1, 1, 0, 2)], True)

    def test_a_want_that_is_there_twice(self):
        self.shows([(0, 1, 1, 0), (0, 1, 1, 0)], False)
        self.shows([(0, 1, 1, 0), (0, 3, 1, 2), (0, 1, 1, 0)], False)
        self.shows([(0, 1, 1, 0), (1, 1, 0, 2), (0, 3, 1, 2), (1, 1, 0, 2)], False)

    def test_wants_that_one_note_meets(self):
        self.shows([(0, 0, 1, 0), (0, 1, 1, 0)], False)
        self.shows([(0, 0, 1, 0), (0, 0, 1, 1)], False)
        self.shows([(0, 0, 1, 0), (0, 1, 1, 1)], False)
        self.shows([(0, 1, 1, 0), (0, 0, 1, 3)], False)
        self.shows([(0, 1, 1, 0), (0, 3, 1, 2), (0, 1, 1, 3)], False)
        self.shows([(0, 1, 1, 2), (0, 3, 1, 2)], False)

    def test_a_note_between_touches_that_do_not_meet_counts_too(self):
        web = [(0, STORE, 0), (0, STORE, 1), (1, LOAD, 0), (1, LOAD, 1)]
        self.shows([(0, 0, 1, 0), (0, 1, 1, 1)], False, web)

    def test_wants_of_other_hands_are_apart(self):
        web = [(0, STORE, 0), (1, STORE, 0), (2, STORE, 0)]
        self.shows([(0, 0, 1, 0), (0, 0, 2, 0), (1, 0, 2, 0)], True, web)
        web = [(0, STORE, 0), (1, STORE, 0), (0, STORE, 0), (1, STORE, 0)]
        self.shows([(0, 0, 1, 0), (1, 0, 0, 1), (0, 1, 1, 1)], True, web)
        self.shows([(0, 0, 1, 1), (1, 0, 0, 1)], True, web)
        self.shows([(0, 0, 1, 1), (0, 1, 1, 1)], False, web)

    def test_what_is_no_want(self):
        for want in NO_NOTES + NO_WANTS:
            self.shows([want], False, WEB)
            self.shows([WANT, want], False, WEB)
            self.shows([want, (0, 1, 2, 0), WANT], False, WEB)
        self.shows([WANT, (0, 1, 2, 0)], True, WEB)
        self.assertIs(apart_shows([], [(0, 0, 1, 0)]), False)

    def test_truths_and_other_forms_are_no_wants(self):
        web = [(0, STORE, 0), (1, STORE, 0)]
        for want in [(False, 0, 1, 0), (0, 0, True, 0), (0, 0, 1), [0, 0, 1, 0]]:
            self.shows([want], False, web)

    def test_against_the_definition(self):
        chance = random.Random(4)
        told = []
        for turn in range(1500):
            web = some_web(chance, chance.randrange(2, 12), chance.randrange(2, 4), chance.randrange(1, 3))
            wants = all_wants(web)
            some = [chance.choice(wants) for want in range(chance.randrange(1, 5))] if wants else []
            told.append(apart_shows(web, some))
            self.assertIs(told[-1], due_apart(web, some), (web, some))
        self.assertGreater(told.count(True), 300)
        self.assertGreater(told.count(False), 300)

    def test_three_hundred_touches(self):
        web = 150 * [(0, STORE, 0), (1, STORE, 0)]
        wants = [(0, k, 1, k) for k in range(150)] + [(1, k, 0, k + 1) for k in range(149)]
        self.assertEqual(wants_apart(web), wants)
        self.shows(wants, True, web)
        self.shows(wants + [(0, 0, 1, 149)], False, web)
        self.shows(wants + [wants[200]], False, web)
        self.shows(3000 * [wants[0]], False, web)
        self.shows(all_wants(web)[:3000], False, web)

    def test_nothing_is_changed(self):
        web, wants = copy.deepcopy(self.web), list(reversed(wants_apart(self.web)))
        kept = copy.deepcopy((web, wants))
        self.assertIs(apart_shows(web, wants), True)
        self.assertEqual((web, wants), kept)
        self.assertIs(apart_shows(web, wants), True)


if __name__ == "__main__":
    unittest.main()
