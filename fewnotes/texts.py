"""The texts of records."""

from fewnotes.cuts import check_notes
from fewnotes.errors import NoText
from fewnotes.programs import MOST_HANDS, number_of

MOST_TOUCHES = 300


def record_text(record):
    """The text of a record."""
    lines = [" ".join(["counts"] + [str(count) for count in record[0]])]
    lines.extend([note_text(note) for note in record[1]])
    return "\n".join(lines)


def read_record(text):
    """The record of a text."""
    lines = text.split("\n")
    record = (read_counts(lines[0]), [read_note(line) for line in lines[1:]])
    check_notes(record)
    return record


def note_text(note):
    return " ".join([touch_text(note[:2]), touch_text(note[2:])])


def touch_text(touch):
    return ".".join([str(number) for number in touch])


def read_counts(line):
    words = line.split(" ")
    if words[0] != "counts":
        raise NoText("the first row tells no counts")
    counts = [read_number(word) for word in words[1:]]
    if len(counts) > MOST_HANDS or sum(counts) > MOST_TOUCHES:
        raise NoText("too many hands or touches")
    return counts


def read_note(line):
    words = line.split(" ")
    if len(words) != 2:
        raise NoText("a row that is no note")
    return read_touch(words[0]) + read_touch(words[1])


def read_touch(word):
    """A touch, a tuple of its hand and its number."""
    halves = word.partition(".")
    return (read_number(halves[0]), read_number(halves[2]))


def read_number(word):
    number = number_of(word)
    if number is None:
        raise NoText("a word that is no number")
    return number
