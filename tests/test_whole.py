"""Point 4, the promise of the whole, and point 1, as far as what is built can show them."""

import itertools
import random
import unittest

from fewnotes.cuts import first_order, how_many_cuts, how_many_orders, is_cut, keeps, ring
from fewnotes.notes import enough, notes, parting, parting_shows
from fewnotes.programs import read, shown
from fewnotes.strict import apart_shows, meets_want, strict_notes, wants_apart
from fewnotes.texts import read_record, record_text
from fewnotes.webs import meet, must_ahead, names, same_run, touches_of, web_of
from fewnotes.works import Works


def some_sum(chance):
    words = [chance.choice(["a", "b", "c", str(chance.randrange(1000))]) for word in range(2)]
    return chance.choice([words[0], words[0] + "+" + words[1], words[0] + "-" + words[1]])


def some_row(chance, cells, rows):
    box, cell, target = chance.choice("abc"), chance.randrange(cells), chance.randrange(rows + 1)
    return chance.choice([
        f"load {box} {cell}",
        f"load {box} {cell}",
        f"store {cell} {some_sum(chance)}",
        f"store {cell} {some_sum(chance)}",
        f"swap {box} {cell} {some_sum(chance)}",
        f"let {box} {some_sum(chance)}",
        f"say {some_sum(chance)}",
        f"unless {some_sum(chance)} {chance.choice('=<')} {some_sum(chance)} go {target}",
        f"go {target}",
    ])


def some_program(chance):
    cells = chance.randrange(1, 4)
    lines = [f"cells {cells}"]
    for hand in range(chance.randrange(1, 5)):
        rows = chance.randrange(1, 9)
        lines.append("hand")
        lines.extend(some_row(chance, cells, rows) for row in range(rows))
    return read("\n".join(lines))


def some_run(chance, program, most):
    """An order of a run of the program, and the works behind it."""
    works = Works(program)
    order = []
    while len(order) < most:
        free = [hand for hand in range(len(program[1])) if works.how(hand) == "waits"]
        if not free:
            break
        order.append(chance.choice(free))
        works.turn(order[-1])
    return order, works


def some_order(chance, web):
    """An order of the places in which each is behind all that must come ahead of it."""
    left = list(range(len(web)))
    order = []
    while left:
        free = [place for place in left if not any(must_ahead(web, one, place) for one in left)]
        order.append(chance.choice(free))
        left.remove(order[-1])
    return order


class TheWhole(unittest.TestCase):
    def replayed(self, program, hands):
        works = Works(program)
        for hand in hands:
            works.turn(hand)
        return works

    def test_orders_that_tell_the_same_run_do(self):
        chance = random.Random(1)
        turned = 0
        for turn in range(150):
            program = some_program(chance)
            order, works = some_run(chance, program, 14)
            web = web_of(program, order)
            for again in range(4):
                places = some_order(chance, web)
                self.assertTrue(same_run(web, places))
                hands = [web[place][0] for place in places]
                self.assertEqual(touches_of(program, hands), touches_of(program, order))
                self.assertEqual(self.replayed(program, hands), works)
                self.assertEqual(web_of(program, hands), [web[place] for place in places])
                turned += places != sorted(places)
        self.assertGreater(turned, 100)

    def test_orders_that_turn_a_meeting_about_do_not(self):
        chance = random.Random(2)
        seen = 0
        for turn in range(100):
            program = some_program(chance)
            order, works = some_run(chance, program, 12)
            web = web_of(program, order)
            for place in range(len(web) - 1):
                places = list(range(len(web)))
                places[place], places[place + 1] = place + 1, place
                due = not meet(web, place, place + 1) and web[place][0] != web[place + 1][0]
                self.assertIs(same_run(web, places), due)
                self.assertIs(must_ahead(web, place, place + 1), not due)
                seen += not due
        self.assertGreater(seen, 100)

    def test_a_race_told_both_ways(self):
        program = read("cells 1\nhand\nload a 0\nstore 0 a+1\nsay a\nhand\nload a 0\nstore 0 a+1\nsay a")
        ends = {}
        for order in set(itertools.permutations([0, 0, 1, 1])):
            works = self.replayed(program, order)
            ends[order] = (works.cells(), works.said(0), works.said(1))
        self.assertEqual(ends[(0, 0, 1, 1)], ([2], [0], [1]))
        self.assertEqual(ends[(1, 1, 0, 0)], ([2], [1], [0]))
        self.assertEqual(ends[(0, 1, 0, 1)], ([1], [0], [0]))
        web = web_of(program, [0, 1, 0, 1])
        for places in itertools.permutations(range(4)):
            hands = tuple(web[place][0] for place in places)
            in_turn = [names(web)[place] for place in places if web[place][0] == 0] == [(0, 0), (0, 1)]
            in_turn = in_turn and [names(web)[place] for place in places if web[place][0] == 1] == [(1, 0), (1, 1)]
            if same_run(web, list(places)):
                self.assertTrue(in_turn)
                self.assertEqual(ends[hands], ends[(0, 1, 0, 1)])

    def test_programs_shown_and_read_go_alike(self):
        chance = random.Random(3)
        for turn in range(150):
            program = some_program(chance)
            again = read(shown(program))
            self.assertEqual(again, program)
            order, works = some_run(chance, program, 10)
            self.assertEqual(self.replayed(again, order), works)

    def test_the_works_of_a_run_tells_what_the_run_tells(self):
        chance = random.Random(4)
        for turn in range(150):
            program = some_program(chance)
            order, works = some_run(chance, program, 20)
            web = web_of(program, order)
            touches = touches_of(program, order)
            self.assertEqual(len(works), len(order))
            self.assertEqual(works.counts(), [len(each) for each in touches])
            self.assertEqual(works.counts(), [order.count(hand) for hand in range(len(program[1]))])
            told = [(hand,) + touches[hand][k][:2] for hand, k in names(web)]
            self.assertEqual(told, web)

    def test_cells_hold_what_was_written_last(self):
        chance = random.Random(8)
        for turn in range(150):
            program = some_program(chance)
            order, works = some_run(chance, program, 20)
            cells = program[0] * [0]
            touches = touches_of(program, order)
            for hand, k in names(web_of(program, order)):
                kind, cell, seen, written = touches[hand][k]
                self.assertEqual((seen is None, written is None), (kind == "store", kind == "load"))
                if seen is not None:
                    self.assertEqual(seen, cells[cell])
                if written is not None:
                    cells[cell] = written
            self.assertEqual(works.cells(), cells)


def record_by(program, web, some):
    hands = [touch[0] for touch in web]
    return [hands.count(hand) for hand in range(len(program[1]))], some


def some_order_by(chance, record):
    """An order of hands in which each turn is free by the notes of the record, as far as one is."""
    counts, some = record
    done = [0 for count in counts]
    order = []
    while True:
        free = [hand for hand, count in enumerate(counts) if done[hand] < count
                and all(k < done[one] for one, k, other, m in some if (other, m) == (hand, done[hand]))]
        if not free:
            return order
        order.append(chance.choice(free))
        done[order[-1]] += 1


class TheFewest(unittest.TestCase):
    def runs(self, seed, count, most):
        chance = random.Random(seed)
        for turn in range(count):
            program = some_program(chance)
            order, works = some_run(chance, program, most)
            yield chance, program, order, works, web_of(program, order)

    def replayed(self, program, hands):
        works = Works(program)
        for hand in hands:
            works.turn(hand)
        return works

    def goes_alike(self, chance, program, order, works, record):
        again = some_order_by(chance, record)
        self.assertEqual(len(again), len(order))
        self.assertIs(keeps(record, again), True)
        self.assertEqual(touches_of(program, again), touches_of(program, order))
        self.assertEqual(self.replayed(program, again), works)
        return again != order

    def test_every_order_free_by_the_notes_tells_the_same_run(self):
        turned = 0
        for chance, program, order, works, web in self.runs(11, 200, 20):
            record = record_by(program, web, notes(web))
            for again in range(4):
                turned += self.goes_alike(chance, program, order, works, record)
        self.assertGreater(turned, 150)

    def test_every_order_free_by_strict_notes_does_too(self):
        turned = 0
        for chance, program, order, works, web in self.runs(12, 200, 20):
            record = record_by(program, web, strict_notes(web))
            for again in range(4):
                turned += self.goes_alike(chance, program, order, works, record)
        self.assertGreater(turned, 100)

    def test_the_orders_by_the_notes_are_those_that_tell_the_same_run(self):
        for chance, program, order, works, web in self.runs(13, 60, 6):
            record = record_by(program, web, notes(web))
            kept = 0
            for hands in sorted(set(itertools.permutations(order))):
                named = names(web)
                places = [named.index((hand, hands[:k].count(hand))) for k, hand in enumerate(hands)]
                self.assertIs(keeps(record, list(hands)), same_run(web, places))
                kept += same_run(web, places)
            self.assertEqual(how_many_orders(record), kept)

    def test_no_note_can_be_left_out(self):
        seen = 0
        for chance, program, order, works, web in self.runs(14, 100, 14):
            told = notes(web)
            for note in told:
                others = record_by(program, web, [each for each in told if each != note])
                self.assertIs(enough(web, others[1]), False)
                first, second = parting(web, note)
                self.assertIs(parting_shows(web, note, (first, second)), True)
                for places, due in [(first, True), (second, False)]:
                    hands = [web[place][0] for place in places]
                    self.assertIs(same_run(web, places), due)
                    self.assertIs(keeps(others, hands), True)
                    self.assertIs(keeps(record_by(program, web, told), hands), due)
                seen += 1
        self.assertGreater(seen, 150)

    def test_strict_notes_are_never_fewer_than_told(self):
        seen = 0
        for chance, program, order, works, web in self.runs(15, 100, 30):
            strict, wants = strict_notes(web), wants_apart(web)
            self.assertEqual(len(strict), len(wants))
            self.assertIs(apart_shows(web, wants), True)
            self.assertIs(enough(web, strict), True)
            for want in wants:
                # One note meets no two of them: so as many are needed as there are.
                self.assertEqual([meets_want(web, note, want) for note in strict].count(True), 1)
            seen += len(wants)
        self.assertGreater(seen, 200)

    def test_records_of_runs(self):
        for chance, program, order, works, web in self.runs(16, 100, 16):
            record = record_by(program, web, notes(web))
            self.assertIs(keeps(record, order), True)
            self.assertLessEqual(first_order(record), order)
            self.assertIsNone(ring(record))
            for length in range(len(order) + 1):
                done = [order[:length].count(hand) for hand in range(len(record[0]))]
                self.assertIs(is_cut(record, done), True)
            self.assertEqual(read_record(record_text(record)), record)
            self.assertGreaterEqual(how_many_cuts(record), len(order) + 1)
            self.assertGreaterEqual(how_many_orders(record), 1)

    def test_a_race_recorded(self):
        program = read("cells 1\nhand\nload a 0\nstore 0 a+1\nsay a\nhand\nload a 0\nstore 0 a+1\nsay a")
        web = web_of(program, [0, 1, 0, 1])
        self.assertEqual(notes(web), [(0, 1, 1, 1), (1, 0, 0, 1)])
        self.assertEqual(record_text(([2, 2], notes(web))), "counts 2 2\n0.1 1.1\n1.0 0.1")
        self.assertEqual(how_many_orders(([2, 2], notes(web))), 2)


if __name__ == "__main__":
    unittest.main()
