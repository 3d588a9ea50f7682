"""Point 4, the promise of the whole, and point 1."""

import itertools
import random
import unittest

from fewnotes.cuts import first_order, how_many_cuts, how_many_orders, is_cut, keeps, least_cut, ring
from fewnotes.notes import enough, notes, parting, parting_shows
from fewnotes.programs import read, shown
from fewnotes.recorder import Recorder
from fewnotes.records import across, both_ways, cut_record, record_of
from fewnotes.replay import Replay, played
from fewnotes.strict import apart_shows, meets_want, strict_notes, wants_apart
from fewnotes.texts import read_record, record_text
from fewnotes.webs import meet, must_ahead, names, same_run, touches_of, web_of
from fewnotes.works import Works


def some_sum(chance):
    words = [chance.choice(["a", "b", "c", str(chance.randrange(1000))]) for word in range(2)]
    return chance.choice([words[0], words[0] + "+" + words[1], words[0] + "-" + words[1]])


def some_row(chance, cells, rows):
    box, cell, target = chance.choice("abc"), chance.randrange(cells), chance.randrange(rows + 1)
    return chance.choice([
        f"load {box} {cell}",
        f"load {box} {cell}",
        f"store {cell} {some_sum(chance)}",
        f"store {cell} {some_sum(chance)}",
        f"swap {box} {cell} {some_sum(chance)}",
        f"let {box} {some_sum(chance)}",
        f"say {some_sum(chance)}",
        f"unless {some_sum(chance)} {chance.choice('=<')} {some_sum(chance)} go {target}",
        f"go {target}",
    ])


def some_program(chance):
    cells = chance.randrange(1, 4)
    lines = [f"cells {cells}"]
    for hand in range(chance.randrange(1, 5)):
        rows = chance.randrange(1, 9)
        lines.append("hand")
        lines.extend(some_row(chance, cells, rows) for row in range(rows))
    return read("\n".join(lines))


def some_run(chance, program, most):
    """An order of a run of the program, and the works behind it."""
    works = Works(program)
    order = []
    while len(order) < most:
        free = [hand for hand in range(len(program[1])) if works.how(hand) == "waits"]
        if not free:
            break
        order.append(chance.choice(free))
        works.turn(order[-1])
    return order, works


def some_order(chance, web):
    """An order of the places in which each is behind all that must come ahead of it."""
    left = list(range(len(web)))
    order = []
    while left:
        free = [place for place in left if not any(must_ahead(web, one, place) for one in left)]
        order.append(chance.choice(free))
        left.remove(order[-1])
    return order


class TheWhole(unittest.TestCase):
    def replayed(self, program, hands):
        works = Works(program)
        for hand in hands:
            works.turn(hand)
        return works

    def test_orders_that_tell_the_same_run_do(self):
        chance = random.Random(1)
        turned = 0
        for turn in range(150):
            program = some_program(chance)
            order, works = some_run(chance, program, 14)
            web = web_of(program, order)
            for again in range(4):
                places = some_order(chance, web)
                self.assertTrue(same_run(web, places))
                hands = [web[place][0] for place in places]
                self.assertEqual(touches_of(program, hands), touches_of(program, order))
                self.assertEqual(self.replayed(program, hands), works)
                self.assertEqual(web_of(program, hands), [web[place] for place in places])
                turned += places != sorted(places)
        self.assertGreater(turned, 100)

    def test_orders_that_turn_a_meeting_about_do_not(self):
        chance = random.Random(2)
        seen = 0
        for turn in range(100):
            program = some_program(chance)
            order, works = some_run(chance, program, 12)
            web = web_of(program, order)
            for place in range(len(web) - 1):
                places = list(range(len(web)))
                places[place], places[place + 1] = place + 1, place
                due = not meet(web, place, place + 1) and web[place][0] != web[place + 1][0]
                self.assertIs(same_run(web, places), due)
                self.assertIs(must_ahead(web, place, place + 1), not due)
                seen += not due
        self.assertGreater(seen, 100)

    def test_a_race_told_both_ways(self):
        program = read("cells 1\nhand\nload a 0\nstore 0 a+1\nsay a\nhand\nload a 0\nstore 0 a+1\nsay a")
        ends = {}
        for order in set(itertools.permutations([0, 0, 1, 1])):
            works = self.replayed(program, order)
            ends[order] = (works.cells(), works.said(0), works.said(1))
        self.assertEqual(ends[(0, 0, 1, 1)], ([2], [0], [1]))
        self.assertEqual(ends[(1, 1, 0, 0)], ([2], [1], [0]))
        self.assertEqual(ends[(0, 1, 0, 1)], ([1], [0], [0]))
        web = web_of(program, [0, 1, 0, 1])
        for places in itertools.permutations(range(4)):
            hands = tuple(web[place][0] for place in places)
            in_turn = [names(web)[place] for place in places if web[place][0] == 0] == [(0, 0), (0, 1)]
            in_turn = in_turn and [names(web)[place] for place in places if web[place][0] == 1] == [(1, 0), (1, 1)]
            if same_run(web, list(places)):
                self.assertTrue(in_turn)
                self.assertEqual(ends[hands], ends[(0, 1, 0, 1)])

    def test_programs_shown_and_read_go_alike(self):
        chance = random.Random(3)
        for turn in range(150):
            program = some_program(chance)
            again = read(shown(program))
            self.assertEqual(again, program)
            order, works = some_run(chance, program, 10)
            self.assertEqual(self.replayed(again, order), works)

    def test_the_works_of_a_run_tells_what_the_run_tells(self):
        chance = random.Random(4)
        for turn in range(150):
            program = some_program(chance)
            order, works = some_run(chance, program, 20)
            web = web_of(program, order)
            touches = touches_of(program, order)
            self.assertEqual(len(works), len(order))
            self.assertEqual(works.counts(), [len(each) for each in touches])
            self.assertEqual(works.counts(), [order.count(hand) for hand in range(len(program[1]))])
            told = [(hand,) + touches[hand][k][:2] for hand, k in names(web)]
            self.assertEqual(told, web)

    def test_cells_hold_what_was_written_last(self):
        chance = random.Random(8)
        for turn in range(150):
            program = some_program(chance)
            order, works = some_run(chance, program, 20)
            cells = program[0] * [0]
            touches = touches_of(program, order)
            for hand, k in names(web_of(program, order)):
                kind, cell, seen, written = touches[hand][k]
                self.assertEqual((seen is None, written is None), (kind == "store", kind == "load"))
                if seen is not None:
                    self.assertEqual(seen, cells[cell])
                if written is not None:
                    cells[cell] = written
            self.assertEqual(works.cells(), cells)


def record_by(program, web, some):
    hands = [touch[0] for touch in web]
    return [hands.count(hand) for hand in range(len(program[1]))], some


def some_order_by(chance, record):
    """An order of hands in which each turn is free by the notes of the record, as far as one is."""
    counts, some = record
    done = [0 for count in counts]
    order = []
    while True:
        free = [hand for hand, count in enumerate(counts) if done[hand] < count
                and all(k < done[one] for one, k, other, m in some if (other, m) == (hand, done[hand]))]
        if not free:
            return order
        order.append(chance.choice(free))
        done[order[-1]] += 1


class TheFewest(unittest.TestCase):
    def runs(self, seed, count, most):
        chance = random.Random(seed)
        for turn in range(count):
            program = some_program(chance)
            order, works = some_run(chance, program, most)
            yield chance, program, order, works, web_of(program, order)

    def replayed(self, program, hands):
        works = Works(program)
        for hand in hands:
            works.turn(hand)
        return works

    def goes_alike(self, chance, program, order, works, record):
        again = some_order_by(chance, record)
        self.assertEqual(len(again), len(order))
        self.assertIs(keeps(record, again), True)
        self.assertEqual(touches_of(program, again), touches_of(program, order))
        self.assertEqual(self.replayed(program, again), works)
        return again != order

    def test_every_order_free_by_the_notes_tells_the_same_run(self):
        turned = 0
        for chance, program, order, works, web in self.runs(11, 200, 20):
            record = record_by(program, web, notes(web))
            for again in range(4):
                turned += self.goes_alike(chance, program, order, works, record)
        self.assertGreater(turned, 150)

    def test_every_order_free_by_strict_notes_does_too(self):
        turned = 0
        for chance, program, order, works, web in self.runs(12, 200, 20):
            record = record_by(program, web, strict_notes(web))
            for again in range(4):
                turned += self.goes_alike(chance, program, order, works, record)
        self.assertGreater(turned, 100)

    def test_the_orders_by_the_notes_are_those_that_tell_the_same_run(self):
        for chance, program, order, works, web in self.runs(13, 60, 6):
            record = record_by(program, web, notes(web))
            kept = 0
            for hands in sorted(set(itertools.permutations(order))):
                named = names(web)
                places = [named.index((hand, hands[:k].count(hand))) for k, hand in enumerate(hands)]
                self.assertIs(keeps(record, list(hands)), same_run(web, places))
                kept += same_run(web, places)
            self.assertEqual(how_many_orders(record), kept)

    def test_no_note_can_be_left_out(self):
        seen = 0
        for chance, program, order, works, web in self.runs(14, 100, 14):
            told = notes(web)
            for note in told:
                others = record_by(program, web, [each for each in told if each != note])
                self.assertIs(enough(web, others[1]), False)
                first, second = parting(web, note)
                self.assertIs(parting_shows(web, note, (first, second)), True)
                for places, due in [(first, True), (second, False)]:
                    hands = [web[place][0] for place in places]
                    self.assertIs(same_run(web, places), due)
                    self.assertIs(keeps(others, hands), True)
                    self.assertIs(keeps(record_by(program, web, told), hands), due)
                seen += 1
        self.assertGreater(seen, 150)

    def test_strict_notes_are_never_fewer_than_told(self):
        seen = 0
        for chance, program, order, works, web in self.runs(15, 100, 30):
            strict, wants = strict_notes(web), wants_apart(web)
            self.assertEqual(len(strict), len(wants))
            self.assertIs(apart_shows(web, wants), True)
            self.assertIs(enough(web, strict), True)
            for want in wants:
                # One note meets no two of them: so as many are needed as there are.
                self.assertEqual([meets_want(web, note, want) for note in strict].count(True), 1)
            seen += len(wants)
        self.assertGreater(seen, 200)

    def test_records_of_runs(self):
        for chance, program, order, works, web in self.runs(16, 100, 16):
            record = record_by(program, web, notes(web))
            self.assertIs(keeps(record, order), True)
            self.assertLessEqual(first_order(record), order)
            self.assertIsNone(ring(record))
            for length in range(len(order) + 1):
                done = [order[:length].count(hand) for hand in range(len(record[0]))]
                self.assertIs(is_cut(record, done), True)
            self.assertEqual(read_record(record_text(record)), record)
            self.assertGreaterEqual(how_many_cuts(record), len(order) + 1)
            self.assertGreaterEqual(how_many_orders(record), 1)

    def test_a_race_recorded(self):
        program = read("cells 1\nhand\nload a 0\nstore 0 a+1\nsay a\nhand\nload a 0\nstore 0 a+1\nsay a")
        web = web_of(program, [0, 1, 0, 1])
        self.assertEqual(notes(web), [(0, 1, 1, 1), (1, 0, 0, 1)])
        self.assertEqual(record_text(([2, 2], notes(web))), "counts 2 2\n0.1 1.1\n1.0 0.1")
        self.assertEqual(how_many_orders(([2, 2], notes(web))), 2)


def busy_program(chance):
    """A program whose hands go round and round, so that runs of many turns are there."""
    cells = chance.randrange(1, 5)
    lines = [f"cells {cells}"]
    for hand in range(chance.randrange(2, 7)):
        rows = chance.randrange(3, 9)
        lines.append("hand")
        for row in range(rows):
            line = some_row(chance, cells, rows)
            # Back at the end alone, over a touch: so no hand is lost, and few end.
            lines.append(f"unless a < b+500 go {rows}" if "go" in line else line)
        lines.extend([f"store {chance.randrange(cells)} {some_sum(chance)}", "say a+b"])
        lines.append(chance.choice(["go 0", "go 0", "go 0", "say b"]))
    return read("\n".join(lines))


def ends(works):
    hands = range(len(works.counts()))
    return works.cells(), [(works.said(hand), works.how(hand), works.boxes(hand)) for hand in hands]


class TheReplays(unittest.TestCase):
    def runs(self, seed, count, most):
        chance = random.Random(seed)
        for turn in range(count):
            program = busy_program(chance) if turn % 4 else some_program(chance)
            order, works = some_run(chance, program, chance.randrange(most + 1))
            yield chance, program, order, works, web_of(program, order)

    def choices(self, chance):
        """Different ways to choose among the free hands."""
        last = []

        def unlike_the_last(free):
            others = [hand for hand in free if hand not in last[-1:]]
            last.append((others or free)[0])
            return last[-1]

        return [lambda free: free[0], lambda free: free[-1], chance.choice, unlike_the_last]

    def replayed_to_its_end(self, replay, choose):
        """The touches of each hand of a replay that is taken on as long as a hand is free."""
        touches = [[] for count in replay.counts()]
        left = len(replay)
        while replay.free():
            hand = choose(replay.free())
            touches[hand].append(replay.turn(hand))
            left -= 1
            self.assertEqual(len(replay), left)
        self.assertIs(replay.done(), True)
        self.assertEqual((left, len(replay)), (0, 0))
        return touches

    def test_every_replay_by_the_notes_of_a_run_is_the_run(self):
        turned = 0
        for chance, program, order, works, web in self.runs(21, 80, 60):
            record = record_of(len(program[1]), web)
            for some in [notes(web), strict_notes(web)]:
                for choose in self.choices(chance):
                    replay = Replay(Works(program), (record[0], some))
                    self.assertEqual(self.replayed_to_its_end(replay, choose), touches_of(program, order))
                    self.assertEqual(replay.works(), works)
                    self.assertEqual(ends(replay.works()), ends(works))
                for choose in self.choices(chance):
                    again = played(Works(program), (record[0], some), choose)
                    self.assertIs(keeps((record[0], some), again), True)
                    self.assertEqual(touches_of(program, again), touches_of(program, order))
                    turned += again != order
        self.assertGreater(turned, 300)

    def test_three_hundred_turns(self):
        longest = 0
        for chance, program, order, works, web in self.runs(22, 6, 600):
            order = order[:300]
            web, works = web_of(program, order), Works(program)
            for hand in order:
                works.turn(hand)
            counts = record_of(len(program[1]), web)[0]
            for some in [notes(web), strict_notes(web)]:
                for choose in self.choices(chance):
                    replay = Replay(Works(program), (counts, some))
                    self.assertEqual(self.replayed_to_its_end(replay, choose), touches_of(program, order))
                    self.assertEqual(replay.works(), works)
            longest = max(longest, len(order))
        self.assertEqual(longest, 300)

    def test_so_too_from_any_cut_on(self):
        amid = 0
        for chance, program, order, works, web in self.runs(23, 60, 24):
            hands = len(program[1])
            touches = touches_of(program, order)
            for some in [notes(web), strict_notes(web)]:
                record = (record_of(hands, web)[0], some)
                for again in range(4):
                    cut = some_cut(chance, record)
                    first, second = cut_record(record, cut)
                    replay = Replay(Works(program), first)
                    self.assertEqual(self.replayed_to_its_end(replay, chance.choice),
                                     [each[:done] for each, done in zip(touches, cut)])
                    for choose in self.choices(chance):
                        rest = Replay(replay.works(), second)
                        self.assertEqual(self.replayed_to_its_end(rest, choose),
                                         [each[done:] for each, done in zip(touches, cut)])
                        self.assertEqual(rest.works(), works)
                        self.assertEqual(ends(rest.works()), ends(works))
                    # A cut that is no beginning of the run itself.
                    amid += cut != [order[:sum(cut)].count(hand) for hand in range(hands)]
        self.assertGreater(amid, 90)

    def test_from_amid_a_run_on(self):
        for chance, program, order, works, web in self.runs(24, 60, 40):
            hands, at = len(program[1]), chance.randrange(len(order) + 1)
            amid = Works(program)
            for hand in order[:at]:
                amid.turn(hand)
            for choose in self.choices(chance):
                replay = Replay(amid, record_of(hands, web[at:]))
                self.replayed_to_its_end(replay, choose)
                self.assertEqual(replay.works(), works)

    def test_without_a_note_an_order_is_free_the_other_way_about(self):
        seen = 0
        for chance, program, order, works, web in self.runs(25, 60, 16):
            record = record_of(len(program[1]), web)
            for note in record[1]:
                others = (record[0], [each for each in record[1] if each != note])
                hands, first, second = both_ways(program, order, note)
                replay = Replay(Works(program), others)
                for hand in hands:
                    replay.turn(hand)
                self.assertEqual((replay.counts()[note[0]], replay.counts()[note[2]]), (note[1], note[3]))
                one, other = replay, replay.twin()
                self.assertEqual((one.turn(note[0]), one.turn(note[2])), first)
                self.assertEqual((other.turn(note[2]), other.turn(note[0])), second)
                touches = touches_of(program, order)
                self.assertEqual(first, (touches[note[0]][note[1]], touches[note[2]][note[3]]))
                # By the whole record it is held just there.
                held = Replay(Works(program), record)
                for hand in hands:
                    held.turn(hand)
                self.assertNotIn(note[2], held.free())
                self.assertIn(note[0], held.free())
                seen += 1
        self.assertGreater(seen, 150)

    def test_what_is_recorded_as_the_run_goes(self):
        seen = 0
        for chance, program, order, works, web in self.runs(26, 60, 40):
            hands = len(program[1])
            recorder, run = Recorder(hands), Works(program)
            for place, hand in enumerate(order):
                touch = run.turn(hand)
                brought = recorder.did(hand, touch[0], touch[1])
                so_far = web[:place + 1]
                self.assertEqual((recorder.counts(), recorder.notes()), record_of(hands, so_far))
                self.assertEqual(recorder.counts(), run.counts())
                self.assertEqual(brought, [note for note in notes(so_far) if note[2:] == names(so_far)[-1]])
                self.assertEqual(str(recorder), record_text(record_of(hands, so_far)))
                due = [len([one for one in range(place) if web[one][0] == other and must_ahead(so_far, one, place)])
                       for other in range(hands)] if place % 5 == 0 else None
                if due:
                    due[hand] += 1
                    self.assertEqual(recorder.known(hand), due)
            seen += len(recorder)
        self.assertGreater(seen, 400)

    def test_what_is_known_to_a_hand_is_the_least_cut_with_its_last_touch(self):
        for chance, program, order, works, web in self.runs(27, 60, 30):
            hands = len(program[1])
            recorder = Recorder(hands)
            for touch in web:
                recorder.did(*touch)
            record = record_of(hands, web)
            for hand in range(hands):
                last = [count if one == hand else 0 for one, count in enumerate(record[0])]
                self.assertEqual(recorder.known(hand), least_cut(record, last))

    def test_records_joined_are_records_of_the_whole(self):
        for chance, program, order, works, web in self.runs(28, 60, 30):
            hands, at = len(program[1]), chance.randrange(len(order) + 1)
            first, second = record_of(hands, web[:at]), record_of(hands, web[at:])
            counted_on = [(h, k + first[0][h], o, m + first[0][o]) for h, k, o, m in second[1]]
            joined = sorted(first[1] + counted_on + across(web[:at], web[at:]))
            counts = [one + other for one, other in zip(first[0], second[0])]
            self.assertEqual((counts, joined), record_of(hands, web))
            self.assertEqual(cut_record((counts, joined), first[0]), (first, second))
            self.assertEqual(read_record(record_text((counts, joined))), record_of(hands, web))


def some_cut(chance, record):
    """A cut of a record that can be come to, of some number of touches."""
    order = some_order_by(chance, record)
    done = order[:chance.randrange(len(order) + 1)]
    return [done.count(hand) for hand in range(len(record[0]))]


if __name__ == "__main__":
    unittest.main()
