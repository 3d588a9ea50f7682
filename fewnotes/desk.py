"""The desk: it is told rows, and answers each by a text."""

from fewnotes.errors import NoForm, NoneYet
from fewnotes.programs import number_of, read
from fewnotes.recorder import Recorder
from fewnotes.replay import Replay
from fewnotes.strict import strict_notes
from fewnotes.texts import note_text
from fewnotes.works import Works

ALONE = ("drop", "read", "notes", "strict", "again", "free", "cells", "gone")
OF_A_HAND = ("turn", "go", "said", "told")


class Desk:
    """Rows that may become a program; and, once one is read, a run of it and a replay."""

    def __init__(self):
        self.rows = []
        self.program = None
        self.run = None
        self.recorder = None
        self.replay = None

    def say(self, row):
        """The answer to a row."""
        if not has_form(row):
            raise NoForm("a row of no form")
        halves = row.partition(" ")
        if halves[0] == "row":
            self.rows.append(halves[2])
            return "ok"
        if row == "drop":
            self.rows = []
            return "ok"
        if row == "read":
            return self.begin(read("\n".join(self.rows)))
        if self.program is None:
            raise NoneYet("no program is read")
        if halves[0] in OF_A_HAND:
            return self.answer_of_hand(halves[0], int(halves[2]))
        return self.answer_alone(row)

    def begin(self, program):
        """Puts the run and the replay at the program's beginning."""
        hands = len(program[1])
        self.program = program
        self.run = Works(program)
        self.recorder = Recorder(hands)
        self.replay = Replay(self.run, ([0 for hand in program[1]], []))
        return f"hands {hands}"

    def answer_of_hand(self, word, hand):
        if word == "turn":
            return touch_words(self.go_on(hand))
        if word == "go":
            return touch_words(self.replay.turn(hand))
        works = self.run if word == "said" else self.replay.works()
        return number_words(works.said(hand))

    def go_on(self, hand):
        """A turn of the run, recorded."""
        touch = self.run.turn(hand)
        self.recorder.did(hand, touch[0], touch[1])
        return touch

    def answer_alone(self, word):
        if word == "again":
            record = (self.recorder.counts(), self.recorder.notes())
            self.replay = Replay(Works(self.program), record)
            return "ok"
        if word == "notes":
            return note_words(self.recorder.notes())
        if word == "strict":
            return note_words(strict_notes(self.recorder.web))
        if word == "free":
            return number_words(self.replay.free())
        works = self.run if word == "cells" else self.replay.works()
        return number_words(works.cells())


def has_form(row):
    halves = row.partition(" ")
    if halves[0] == "row":
        return halves[1] == " " and "\n" not in row
    if halves[0] in OF_A_HAND:
        return len(halves[2]) == 1 and number_of(halves[2]) is not None
    return row in ALONE


def touch_words(touch):
    return " ".join(["-" if part is None else str(part) for part in touch])


def number_words(numbers):
    return words_or_none([str(number) for number in numbers])


def note_words(some):
    return words_or_none([note_text(note) for note in some])


def words_or_none(words):
    return " ".join(words) if words else "none"
