"""Programs: read from their texts, and shown as texts again."""

from fewnotes.errors import Full, NoCell, NoRow, NoTarget

BOXES = "abcdefgh"
FIGURES = "0123456789"
MOST_FIGURES = 3
MOST_CELLS = 20
MOST_HANDS = 8
MOST_ROWS = 60

# By a row's first word, as this alone tells its form: the kinds of the words behind it.
FORMS = {
    "cells": ("number",),
    "hand": (),
    "load": ("box", "number"),
    "store": ("number", "sum"),
    "swap": ("box", "number", "sum"),
    "let": ("box", "sum"),
    "say": ("sum",),
    "go": ("number",),
    "unless": ("sum", "sign", "sum", "go", "number"),
}


def read(text):
    """The program of a text."""
    lines = text.split("\n")
    count = 0
    hands = []
    for number, line in enumerate(lines, start=1):
        row = row_of(line)
        check_form(row, number, hands)
        check_cells(row, number, count)
        check_room(row, number, hands)
        if row[0] == "cells":
            count = row[1]
        elif row[0] == "hand":
            hands.append([])
        else:
            hands[-1].append(row)
    if not hands:
        raise NoRow(len(lines) + 1)
    check_targets(hands)
    return (count, hands)


def shown(program):
    """The text of a program."""
    count = program[0]
    lines = [f"cells {count}"]
    for hand in program[1]:
        lines.append("hand")
        lines.extend([line_of(row) for row in hand])
    return "\n".join(lines)


def cell_of(row):
    """The cell that a row touches, None where it touches none."""
    if row[0] == "store":
        return row[1]
    return row[2] if row[0] in ("load", "swap") else None


def check_form(row, number, hands):
    if row is None:
        raise NoRow(number)
    if (row[0] == "cells") != (number == 1):
        raise NoRow(number)
    if row[0] not in ("cells", "hand") and not hands:
        raise NoRow(number)


def check_cells(row, number, count):
    if row[0] == "cells" and not 1 <= row[1] <= MOST_CELLS:
        raise NoCell(number)
    cell = cell_of(row)
    if cell is not None and cell >= count:
        raise NoCell(number)


def check_room(row, number, hands):
    if row[0] == "cells":
        return
    if row[0] == "hand":
        full = len(hands) == MOST_HANDS
    else:
        full = len(hands[-1]) == MOST_ROWS
    if full:
        raise Full(number)


def check_targets(hands):
    number = 1
    for hand in hands:
        number += 1
        for row in hand:
            number += 1
            if row[0] in ("go", "unless") and row[-1] > len(hand):
                raise NoTarget(number)


def row_of(line):
    """The row of a line of text, None where it has none of the forms."""
    words = line.split(" ")
    form = FORMS.get(words[0])
    if form is None or len(words) != len(form) + 1:
        return None
    parts = [part_of(kind, word) for kind, word in zip(form, words[1:])]
    if None in parts:
        return None
    if words[0] == "unless":
        return ("unless", parts[1], parts[0], parts[2], parts[4])
    return tuple([words[0]] + parts)


def part_of(kind, word):
    """What a word says where a part of that kind is due, None where it is none."""
    if kind == "number":
        return number_of(word)
    if kind == "sum":
        return sum_of(word)
    if kind == "box":
        return word if is_box(word) else None
    if kind == "sign":
        return word if word in ("=", "<") else None
    return word if word == kind else None


def sum_of(word):
    if "+" in word:
        return pair_of("plus", word.partition("+"))
    if "-" in word:
        return pair_of("minus", word.partition("-"))
    return single_of(word)


def pair_of(kind, halves):
    """The sum or difference of the two words around a sign, None where one is no single."""
    left = single_of(halves[0])
    right = single_of(halves[2])
    if left is None or right is None:
        return None
    return (kind, left, right)


def single_of(word):
    if is_box(word):
        return ("box", word)
    number = number_of(word)
    return None if number is None else ("number", number)


def is_box(word):
    return len(word) == 1 and word in BOXES


def number_of(word):
    if not 1 <= len(word) <= MOST_FIGURES:
        return None
    # Python's own isdigit would take figures of other scripts too.
    if not all([sign in FIGURES for sign in word]):
        return None
    if word[0] == "0" and len(word) > 1:
        return None
    return int(word)


def line_of(row):
    parts = row
    if row[0] == "unless":
        parts = ["unless", row[2], row[1], row[3], "go", row[4]]
    return " ".join([word_of(part) for part in parts])


def word_of(part):
    if not isinstance(part, tuple):
        return str(part)
    if part[0] in ("number", "box"):
        return str(part[1])
    sign = "+" if part[0] == "plus" else "-"
    return word_of(part[1]) + sign + word_of(part[2])
