"""Points 2, 3, 15, 16 and 17: the fewest notes."""

import copy
import itertools
import random
import unittest

from fewnotes import errors
from fewnotes.notes import enough, notes, parting, parting_shows
from fewnotes.webs import same_run

LOAD, STORE, SWAP = "load", "store", "swap"

# Hand 0 stores, hands 1 and 2 load that, hand 0 stores again; then hand 1, by another cell, is told of by hand 2.
WEB = [(0, STORE, 0), (1, LOAD, 0), (2, LOAD, 0), (0, SWAP, 0), (1, STORE, 1), (2, LOAD, 1), (2, LOAD, 0)]
NOTES = [(0, 0, 1, 0), (0, 0, 2, 0), (0, 1, 2, 2), (1, 0, 0, 1), (1, 1, 2, 1), (2, 0, 0, 1)]

# What is no note between touches of WEB, by each of the faults.
NO_NOTES = [
    (3, 0, 1, 0), (0, 0, 3, 0), (-1, 0, 1, 0), (0, 0, -1, 0), (8, 0, 1, 0), (0, 0, 10 ** 29, 0), (-10 ** 29, 0, 1, 0),
    (0, 0, 0, 1), (1, 0, 1, 1), (2, 1, 2, 1),
    (0, -1, 1, 0), (0, 0, 1, -1), (0, 2, 2, 2), (0, 0, 1, 2), (0, 0, 2, 3), (0, 10 ** 29, 1, 0), (0, 0, 1, 10 ** 29),
    (1, 0, 0, 0), (2, 0, 1, 0), (2, 2, 0, 1), (2, 1, 0, 1), (0, 1, 1, 0),
]


class Refusing(unittest.TestCase):
    def refused(self, error, deed, *given):
        with self.assertRaises(errors.NoteError, msg=repr(given)) as taken:
            deed(*given)
        self.assertIs(type(taken.exception), error, given)


def some_web(chance, length, hands, cells):
    return [(chance.randrange(hands), chance.choice([LOAD, STORE, SWAP]), chance.randrange(cells))
            for place in range(length)]


def named(web):
    """For each place (hand, k), said as the document says it."""
    return [(touch[0], len([one for one in web[:place] if one[0] == touch[0]])) for place, touch in enumerate(web)]


def meeting(web, one, other):
    return web[one][0] != web[other][0] and web[one][2] == web[other][2] and {web[one][1], web[other][1]} != {LOAD}


def meetings(web):
    return [(one, other) for one, other in itertools.combinations(range(len(web)), 2) if meeting(web, one, other)]


def own_steps(web):
    return [(one, other) for one, other in itertools.combinations(range(len(web)), 2) if web[one][0] == web[other][0]]


def reached(count, steps):
    """For each place all to which some way of the steps leads, each step from a place to a later one."""
    ways = [set() for place in range(count)]
    for one, other in sorted(steps, reverse=True):
        ways[one] |= {other} | ways[other]
    return ways


def due_notes(web):
    """The notes by their definition: no way but the step itself."""
    told = []
    names = named(web)
    steps = [[] for touch in web]
    for one, other in own_steps(web) + meetings(web):
        steps[one].append(other)
    ways = reached(len(web), own_steps(web) + meetings(web))
    for one, other in meetings(web):
        if not any(other in ways[place] for place in steps[one]):
            told.append(names[one] + names[other])
    return sorted(told)


def as_steps(web, some):
    names = named(web)
    return [(names.index(note[:2]), names.index(note[2:])) for note in some]


def due_enough(web, some):
    ways = reached(len(web), own_steps(web) + as_steps(web, some))
    return all(other in ways[one] for one, other in meetings(web))


def strict(web):
    """All notes whose first touch is the earlier one."""
    names = named(web)
    return [names[one] + names[other] for one, other in itertools.combinations(range(len(web)), 2)
            if web[one][0] != web[other][0]]


def due_shows(web, note, paper):
    """Whether the paper is such as point 17 says."""
    first, second = paper
    places = list(range(len(web)))
    if sorted(first) != places or sorted(second) != places:
        return False
    kept = own_steps(web) + as_steps(web, [each for each in due_notes(web) if each != note])
    for order in paper:
        if any(order.index(one) > order.index(other) for one, other in kept):
            return False
    (one, other), = as_steps(web, [note])
    unlike = [k for k in places if first[k] != second[k]]
    if len(unlike) != 2 or unlike[1] != unlike[0] + 1:
        return False
    return [first[k] for k in unlike] == [one, other] and [second[k] for k in unlike] == [other, one]


class TheNotes(unittest.TestCase):
    def test_some(self):
        self.assertEqual(notes(WEB), NOTES)
        self.assertIs(type(notes(WEB)), list)
        self.assertTrue(all(type(note) is tuple for note in notes(WEB)))

    def test_none(self):
        self.assertEqual(notes([]), [])
        self.assertEqual(notes([(0, STORE, 0)]), [])
        self.assertEqual(notes(5 * [(0, SWAP, 0)]), [])
        self.assertEqual(notes([(0, LOAD, 0), (1, LOAD, 0), (2, LOAD, 0)]), [])
        self.assertEqual(notes([(0, STORE, 0), (1, STORE, 1), (2, SWAP, 2)]), [])

    def test_two_that_meet(self):
        for kind, other in itertools.product([LOAD, STORE, SWAP], repeat=2):
            due = [] if kind == other == LOAD else [(0, 0, 1, 0)]
            self.assertEqual(notes([(0, kind, 3), (1, other, 3)]), due)
            self.assertEqual(notes([(0, kind, 3), (1, other, 4)]), [])

    def test_a_longer_way_by_another_hand_makes_a_note_needless(self):
        self.assertEqual(notes([(0, STORE, 0), (1, STORE, 0), (2, STORE, 0)]), [(0, 0, 1, 0), (1, 0, 2, 0)])
        self.assertEqual(notes([(0, STORE, 0), (1, SWAP, 0), (2, LOAD, 0)]), [(0, 0, 1, 0), (1, 0, 2, 0)])

    def test_a_longer_way_by_the_first_ones_hand_makes_a_note_needless(self):
        self.assertEqual(notes([(0, STORE, 0), (0, STORE, 0), (1, LOAD, 0)]), [(0, 1, 1, 0)])
        self.assertEqual(notes([(0, STORE, 0), (0, STORE, 1), (1, LOAD, 1), (1, LOAD, 0)]), [(0, 1, 1, 0)])

    def test_a_longer_way_by_the_second_ones_hand_makes_a_note_needless(self):
        self.assertEqual(notes([(0, STORE, 0), (1, LOAD, 0), (1, LOAD, 0)]), [(0, 0, 1, 0)])

    def test_a_longer_way_of_many_steps_makes_a_note_needless(self):
        web = [(0, STORE, 9), (0, STORE, 0), (1, LOAD, 0), (1, STORE, 1), (2, LOAD, 1), (2, STORE, 2), (3, LOAD, 2),
               (3, LOAD, 9)]
        self.assertEqual(notes(web), [(0, 1, 1, 0), (1, 1, 2, 0), (2, 1, 3, 0)])
        broken = web[:4] + [(2, LOAD, 5)] + web[5:]
        self.assertEqual(notes(broken), [(0, 0, 3, 1), (0, 1, 1, 0), (2, 1, 3, 0)])

    def test_where_no_longer_way_is_there_each_note_is_needed(self):
        self.assertEqual(notes([(0, STORE, 0), (0, STORE, 1), (1, LOAD, 0), (1, LOAD, 1)]),
                         [(0, 0, 1, 0), (0, 1, 1, 1)])
        self.assertEqual(notes([(0, STORE, 0), (1, LOAD, 0), (2, LOAD, 0)]), [(0, 0, 1, 0), (0, 0, 2, 0)])
        self.assertEqual(notes([(0, LOAD, 0), (1, LOAD, 0), (2, STORE, 0)]), [(0, 0, 2, 0), (1, 0, 2, 0)])

    def test_a_way_that_ends_short_or_begins_late_helps_nothing(self):
        # Hand 1 is told of by hand 2, but only of what hand 2 did ahead of its load.
        web = [(0, STORE, 0), (2, STORE, 1), (1, LOAD, 1), (2, LOAD, 0), (1, LOAD, 0)]
        self.assertEqual(notes(web), [(0, 0, 1, 1), (0, 0, 2, 1), (2, 0, 1, 0)])

    def test_by_numbers(self):
        web = [(2, STORE, 0), (1, SWAP, 0), (0, SWAP, 0), (2, SWAP, 0), (0, STORE, 1), (1, SWAP, 1)]
        self.assertEqual(notes(web), [(0, 0, 2, 1), (0, 1, 1, 1), (1, 0, 0, 0), (2, 0, 1, 0)])
        web = 12 * [(0, STORE, 0), (1, STORE, 0)]
        due = [(0, k, 1, k) for k in range(12)] + [(1, k, 0, k + 1) for k in range(11)]
        self.assertEqual(notes(web), due)

    def test_one_first_touch_to_several_by_the_others(self):
        web = [(3, STORE, 0)] + [(hand, LOAD, 0) for hand in (7, 0, 5)]
        self.assertEqual(notes(web), [(3, 0, 0, 0), (3, 0, 5, 0), (3, 0, 7, 0)])

    def test_eight_hands(self):
        self.assertEqual(notes([(hand, SWAP, 4) for hand in range(8)]), [(h, 0, h + 1, 0) for h in range(7)])
        web = [(hand, STORE, hand) for hand in range(8)] + [(hand, LOAD, (hand + 1) % 8) for hand in range(8)]
        self.assertEqual(notes(web), sorted((hand, 0, (hand - 1) % 8, 1) for hand in range(8)))

    def test_hands_that_do_nothing_between(self):
        self.assertEqual(notes([(7, STORE, 19), (3, LOAD, 19)]), [(7, 0, 3, 0)])

    def test_against_the_definition(self):
        chance = random.Random(1)
        for turn in range(400):
            web = some_web(chance, chance.randrange(1, 14), chance.randrange(1, 6), chance.randrange(1, 4))
            self.assertEqual(notes(web), due_notes(web), web)

    def test_three_hundred_touches(self):
        for hands, cells in [(8, 20), (8, 2), (2, 1), (3, 20)]:
            web = some_web(random.Random(hands + cells), 300, hands, cells)
            self.assertEqual(notes(web), due_notes(web), (hands, cells))
        self.assertEqual(notes(300 * [(4, SWAP, 0)]), [])
        self.assertEqual(notes(100 * [(0, STORE, 0), (1, STORE, 1), (2, STORE, 2)]), [])

    def test_they_are_the_fewest(self):
        chance = random.Random(2)
        for turn in range(40):
            web = some_web(chance, 6, 3, 2)
            wants = [note for note, pair in zip(strict(web), as_steps(web, strict(web))) if meeting(web, *pair)]
            told = notes(web)
            self.assertTrue(due_enough(web, told))
            for count in range(len(told) + 1):
                for some in itertools.combinations(wants, count):
                    self.assertIs(due_enough(web, some), sorted(some) == told, (web, some))

    def test_nothing_is_changed_and_told_anew(self):
        web = copy.deepcopy(WEB)
        told = notes(web)
        self.assertEqual(web, WEB)
        told.append((9, 9, 9, 9))
        told[0] = None
        self.assertEqual(notes(web), NOTES)
        told = notes(web)
        web.pop()
        self.assertEqual(told, NOTES)
        self.assertEqual(notes(web), [note for note in NOTES if note != (0, 1, 2, 2)])


class Enough(Refusing):
    def test_all_notes(self):
        self.assertIs(enough(WEB, NOTES), True)
        self.assertIs(enough(WEB, list(reversed(NOTES))), True)
        self.assertIs(enough(WEB, strict(WEB)), True)

    def test_one_left_out(self):
        for note in NOTES:
            self.assertIs(enough(WEB, [each for each in NOTES if each != note]), False, note)

    def test_none(self):
        self.assertIs(enough([], []), True)
        self.assertIs(enough([(0, STORE, 0)], []), True)
        self.assertIs(enough(9 * [(0, SWAP, 0)], []), True)
        self.assertIs(enough([(0, LOAD, 0), (1, LOAD, 0), (2, STORE, 1)], []), True)
        self.assertIs(enough([(0, LOAD, 0), (1, STORE, 0)], []), False)
        self.assertIs(enough(WEB, []), False)

    def test_notes_between_touches_that_do_not_meet(self):
        web = [(0, STORE, 0), (0, LOAD, 1), (1, LOAD, 2), (1, LOAD, 0)]
        for note in [(0, 0, 1, 0), (0, 0, 1, 1), (0, 1, 1, 0), (0, 1, 1, 1)]:
            self.assertIs(enough(web, [note]), True, note)
        web = [(0, LOAD, 3), (0, STORE, 0), (1, LOAD, 0), (1, LOAD, 3)]
        for note, due in [((0, 0, 1, 0), False), ((0, 1, 1, 0), True), ((0, 1, 1, 1), False), ((0, 0, 1, 1), False)]:
            self.assertIs(enough(web, [note]), due, note)

    def test_ways_by_a_hand_that_meets_neither(self):
        web = [(0, STORE, 0), (2, LOAD, 1), (2, LOAD, 2), (1, LOAD, 0)]
        self.assertIs(enough(web, [(0, 0, 2, 0), (2, 1, 1, 0)]), True)
        self.assertIs(enough(web, [(0, 0, 2, 0), (2, 0, 1, 0)]), True)
        self.assertIs(enough(web, [(0, 0, 2, 1), (2, 0, 1, 0)]), False)
        self.assertIs(enough(web, [(0, 0, 2, 0)]), False)
        self.assertIs(enough(web, [(2, 0, 1, 0)]), False)

    def test_the_hands_own_order_is_a_way(self):
        web = [(0, STORE, 0), (1, LOAD, 0), (1, LOAD, 0), (0, LOAD, 1)]
        self.assertIs(enough(web, [(0, 0, 1, 0)]), True)
        self.assertIs(enough(web, [(0, 0, 1, 1)]), False)
        self.assertIs(enough(web, [(1, 1, 0, 1)]), False)

    def test_a_way_over_many_touches_of_a_hand(self):
        web = [(0, STORE, 0)] + 9 * [(0, LOAD, 1)] + 9 * [(1, LOAD, 2)] + [(1, LOAD, 0)]
        self.assertIs(enough(web, [(0, 9, 1, 0)]), True)
        self.assertIs(enough(web, [(0, 5, 1, 5)]), True)

    def test_one_note_more_than_once(self):
        self.assertIs(enough(WEB, NOTES + NOTES), True)
        self.assertIs(enough(WEB, NOTES[:-1] + NOTES[:-1]), False)
        self.assertIs(enough(WEB, NOTES + 2990 * [NOTES[0]]), True)

    def test_against_the_definition(self):
        chance = random.Random(3)
        told = []
        for turn in range(600):
            web = some_web(chance, chance.randrange(2, 9), chance.randrange(2, 4), chance.randrange(1, 3))
            some = [note for note in strict(web) if chance.random() < 0.6]
            chance.shuffle(some)
            told.append(enough(web, some))
            self.assertIs(told[-1], due_enough(web, some), (web, some))
        self.assertGreater(told.count(True), 150)
        self.assertGreater(told.count(False), 150)

    def test_three_hundred_touches(self):
        for hands, cells in [(8, 20), (2, 1)]:
            web = some_web(random.Random(4), 300, hands, cells)
            told = notes(web)
            self.assertIs(enough(web, told), True)
            for k in (0, len(told) // 2, len(told) - 1):
                self.assertIs(enough(web, told[:k] + told[k + 1:]), False)

    def test_no_notes(self):
        for note in NO_NOTES:
            for some in [[note], NOTES + [note], [note] + NOTES, NOTES[:2] + [note] + NOTES[2:], [NOTES[0], note]]:
                self.refused(errors.NoNote, enough, WEB, some)
        self.refused(errors.NoNote, enough, [], [(0, 0, 1, 0)])
        self.refused(errors.NoNote, enough, [(0, STORE, 0)], [(0, 0, 1, 0)])
        self.refused(errors.NoNote, enough, [(1, STORE, 0)], [(0, 0, 1, 0)])
        self.refused(errors.NoNote, enough, 2 * [(0, STORE, 0)], [(0, 0, 0, 1)])

    def test_the_later_one_first_where_the_touches_meet_or_not(self):
        web = [(0, STORE, 0), (1, STORE, 0), (2, LOAD, 5)]
        for note in [(1, 0, 0, 0), (2, 0, 0, 0), (2, 0, 1, 0)]:
            self.refused(errors.NoNote, enough, web, [(0, 0, 1, 0), note])
            self.assertIs(enough(web, [(0, 0, 1, 0), note[2:] + note[:2]]), True)

    def test_truths_and_other_forms_are_no_notes(self):
        web = [(0, STORE, 0), (1, STORE, 0)]
        for note in [(False, 0, 1, 0), (0, 0, True, 0), (0, False, 1, 0), (0, 0, 1), (0, 0, 1, 0, 0), [0, 0, 1, 0]]:
            self.refused(errors.NoNote, enough, web, [note])

    def test_nothing_is_changed(self):
        web, some = copy.deepcopy(WEB), list(reversed(NOTES))
        kept = list(some)
        self.assertIs(enough(web, some), True)
        self.assertEqual((web, some), (WEB, kept))
        self.assertIs(enough(web, some), True)
        some.pop()
        self.assertIs(enough(web, some), False)


class Parting(Refusing):
    def test_the_least(self):
        self.assertEqual(parting([(0, STORE, 0), (1, LOAD, 0)], (0, 0, 1, 0)), ([0, 1], [1, 0]))

    def test_the_kinds(self):
        paper = parting(WEB, NOTES[0])
        self.assertIs(type(paper), tuple)
        self.assertEqual([type(order) for order in paper], [list, list])

    def test_each_note(self):
        for note in NOTES:
            self.assertTrue(due_shows(WEB, note, parting(WEB, note)), note)

    def test_far_apart(self):
        web = [(0, STORE, 0), (2, STORE, 1), (3, LOAD, 1), (0, STORE, 2), (4, LOAD, 2), (1, STORE, 3), (3, LOAD, 3),
               (1, LOAD, 0), (0, LOAD, 3), (2, STORE, 3)]
        for note in notes(web):
            self.assertTrue(due_shows(web, note, parting(web, note)), note)

    def test_against_the_definition(self):
        chance = random.Random(5)
        for turn in range(200):
            web = some_web(chance, chance.randrange(2, 12), chance.randrange(2, 6), chance.randrange(1, 4))
            for note in notes(web):
                self.assertTrue(due_shows(web, note, parting(web, note)), (web, note))

    def test_the_first_tells_the_same_run_the_second_another(self):
        for note in NOTES:
            first, second = parting(WEB, note)
            self.assertIs(same_run(WEB, first), True)
            self.assertIs(same_run(WEB, second), False)

    def test_three_hundred_touches(self):
        web = some_web(random.Random(6), 300, 8, 20)
        told = notes(web)
        for note in (told[0], told[len(told) // 2], told[-1]):
            paper = parting(web, note)
            self.assertTrue(due_shows(web, note, paper))
            self.assertIs(parting_shows(web, note, paper), True)
            self.assertIs(parting_shows(web, note, (paper[1], paper[0])), False)

    def test_none_of_the_notes(self):
        # (0, 0, 0, 1) names one hand twice, (0, 0, 2, 2) meets but there is a longer way, (1, 0, 2, 0) are two loads.
        for note in NO_NOTES + [(0, 0, 2, 2), (1, 0, 2, 0), (0, 0, 1, 1), (1, 1, 2, 2), (0, 1, 1, 1)]:
            self.refused(errors.NoNote, parting, WEB, note)
            self.refused(errors.NoNote, parting_shows, WEB, note, (list(range(7)), list(range(7))))
        self.refused(errors.NoNote, parting, [], (0, 0, 1, 0))
        self.refused(errors.NoNote, parting_shows, [], (0, 0, 1, 0), ([], []))

    def test_truths_and_other_forms_are_none(self):
        web = [(0, STORE, 0), (1, STORE, 0)]
        for note in [(False, 0, 1, 0), (0, 0, True, 0), (0, 0, 1), [0, 0, 1, 0]]:
            self.refused(errors.NoNote, parting, web, note)
            self.refused(errors.NoNote, parting_shows, web, note, ([0, 1], [1, 0]))

    def test_no_note_goes_ahead_of_no_order(self):
        self.refused(errors.NoNote, parting_shows, WEB, (0, 0, 2, 2), ([], [0, 0]))

    def test_nothing_is_changed_and_told_anew(self):
        web = copy.deepcopy(WEB)
        paper = parting(web, NOTES[2])
        kept = copy.deepcopy(paper)
        self.assertEqual(web, WEB)
        paper[0].append(1)
        paper[1].clear()
        self.assertEqual(parting(web, NOTES[2]), kept)
        self.assertIsNot(kept[0], kept[1])
        paper = parting(web, NOTES[2])
        web[0] = (5, LOAD, 7)
        self.assertEqual(paper, kept)


class PartingShows(Refusing):
    # Places 0 to 5; hand 2 has nothing to do with the others.
    web = [(0, STORE, 0), (2, LOAD, 5), (1, LOAD, 0), (2, LOAD, 6), (1, STORE, 1), (0, LOAD, 1)]
    note = (0, 0, 1, 0)

    def shows(self, first, second, due, note=None):
        self.assertIs(parting_shows(self.web, note or self.note, (first, second)), due, (first, second))

    def test_the_notes(self):
        self.assertEqual(notes(self.web), [(0, 0, 1, 0), (1, 1, 0, 1)])

    def test_what_parting_tells(self):
        for note in notes(self.web):
            self.assertIs(parting_shows(self.web, note, parting(self.web, note)), True)
        for note in NOTES:
            self.assertIs(parting_shows(WEB, note, parting(WEB, note)), True)

    def test_any_other_such(self):
        self.shows([0, 2, 1, 3, 4, 5], [2, 0, 1, 3, 4, 5], True)
        self.shows([1, 0, 2, 3, 4, 5], [1, 2, 0, 3, 4, 5], True)
        self.shows([1, 3, 0, 2, 4, 5], [1, 3, 2, 0, 4, 5], True)
        self.shows([0, 2, 4, 5, 1, 3], [2, 0, 4, 5, 1, 3], True)

    def test_one_is_no_order(self):
        good, turned = [0, 2, 1, 3, 4, 5], [2, 0, 1, 3, 4, 5]
        for order in [[], good[:-1], good + [5], good + [6], [0, 2, 1, 3, 4, 4], [0, 2, 1, 3, 4, 6], [0, 2, 1, 3, 4, -1],
                      [0, 2, 1, 3, 4, 10 ** 29], [-6, -4, -5, -3, -2, -1], 3000 * [0]]:
            self.shows(order, turned, False)
            self.shows(good, order, False)
            self.shows(order, order, False)
        self.shows([0, 2, 1, 3, 4], [2, 0, 1, 3, 4], False)
        self.shows([0, 2, 1, 3, 4, 5, 5], [2, 0, 1, 3, 4, 5, 5], False)

    def test_a_hands_order_is_broken(self):
        self.shows([0, 2, 3, 1, 4, 5], [2, 0, 3, 1, 4, 5], False)
        self.shows([4, 0, 2, 1, 3, 5], [4, 2, 0, 1, 3, 5], False)
        self.shows([5, 0, 2, 1, 3, 4], [5, 2, 0, 1, 3, 4], False)

    def test_another_note_is_broken(self):
        self.shows([0, 2, 1, 3, 5, 4], [2, 0, 1, 3, 5, 4], False)

    def test_the_two_are_no_neighbours(self):
        self.shows([0, 1, 2, 3, 4, 5], [2, 1, 0, 3, 4, 5], False)
        self.shows([0, 1, 2, 3, 4, 5], [1, 2, 0, 3, 4, 5], False)
        self.shows([0, 1, 2, 3, 4, 5], [2, 0, 1, 3, 4, 5], False)

    def test_the_two_lists_are_exchanged(self):
        self.shows([2, 0, 1, 3, 4, 5], [0, 2, 1, 3, 4, 5], False)

    def test_they_do_not_part(self):
        self.shows([0, 2, 1, 3, 4, 5], [0, 2, 1, 3, 4, 5], False)
        self.shows([2, 0, 1, 3, 4, 5], [2, 0, 1, 3, 4, 5], False)

    def test_they_part_at_more_places(self):
        self.shows([0, 2, 1, 3, 4, 5], [2, 0, 1, 4, 3, 5], False)
        self.shows([0, 2, 1, 4, 3, 5], [2, 0, 1, 3, 4, 5], False)
        self.shows([1, 0, 2, 3, 4, 5], [2, 0, 1, 3, 4, 5], False)

    def test_they_part_at_two_others(self):
        self.shows([0, 2, 1, 4, 3, 5], [0, 2, 4, 1, 3, 5], False)
        self.shows([0, 1, 2, 3, 4, 5], [1, 0, 2, 3, 4, 5], False)

    def test_they_part_by_another_note(self):
        self.shows([0, 1, 2, 3, 4, 5], [0, 1, 2, 3, 5, 4], False)
        self.shows([0, 1, 2, 3, 4, 5], [0, 1, 2, 3, 5, 4], True, (1, 1, 0, 1))
        self.shows([0, 2, 1, 3, 4, 5], [2, 0, 1, 3, 4, 5], False, (1, 1, 0, 1))

    def test_the_note_at_the_end(self):
        web = [(1, LOAD, 3), (0, STORE, 0), (1, LOAD, 0)]
        self.assertIs(parting_shows(web, (0, 0, 1, 1), ([0, 1, 2], [0, 2, 1])), True)
        self.assertIs(parting_shows(web, (0, 0, 1, 1), ([0, 2, 1], [0, 2, 1])), False)
        self.assertIs(parting_shows(web, (0, 0, 1, 1), ([0, 2, 1], [0, 1, 2])), False)

    def test_every_paper_against_the_definition(self):
        chance = random.Random(7)
        told = []
        for turn in range(25):
            web = some_web(chance, 4, 3, 2)
            orders = [list(order) for order in itertools.permutations(range(4))]
            for note in notes(web):
                for paper in itertools.product(orders, repeat=2):
                    told.append(parting_shows(web, note, paper))
                    self.assertIs(told[-1], due_shows(web, note, paper), (web, note, paper))
        self.assertGreater(told.count(True), 30)

    def test_truths_are_no_places(self):
        web = [(0, STORE, 0), (1, STORE, 0)]
        self.assertIs(parting_shows(web, (0, 0, 1, 0), ([False, True], [1, 0])), False)
        self.assertIs(parting_shows(web, (0, 0, 1, 0), ([0, 1], [True, False])), False)

    def test_nothing_is_changed(self):
        web, paper = list(self.web), ([0, 2, 1, 3, 4, 5], [2, 0, 1, 3, 4, 5])
        kept = copy.deepcopy((web, paper))
        self.assertIs(parting_shows(web, self.note, paper), True)
        self.assertEqual((web, paper), kept)
        self.assertIs(parting_shows(web, self.note, paper), True)


if __name__ == "__main__":
    unittest.main()
