"""The refusals of the program: one class for each."""


class NoteError(ValueError):
    """Any refusal."""


class RowError(NoteError):
    """A text that is no program; row is the number of the faulty row, from 1 on."""

    def __init__(self, row):
        self.row = row


class NoRow(RowError):
    """A row of no form, or where none of its form may stand."""


class NoCell(RowError):
    """A count of cells out of its bounds, or a cell that there is not."""


class Full(RowError):
    """A hand, or a row of a hand, beyond the most there may be."""


class NoTarget(RowError):
    """A row that leads on to a row beyond its hand's end."""


class NoNumber(NoteError):
    """First numbers of cells that are too many, too few or out of their bounds."""


class NoHand(NoteError):
    """A number that is no hand's."""


class Over(NoteError):
    """A turn of a hand that is over."""


class NoPlace(NoteError):
    """A number that is no place of the web."""


class NoOrder(NoteError):
    """A list that is no order."""


class NoNote(NoteError):
    """What is no note there."""


class NoCut(NoteError):
    """A list that is no cut, or can't be one."""


class TooMany(NoteError):
    """More cuts than the bound."""


class NoText(NoteError):
    """A text that is no record's."""


class NoForm(NoteError):
    """A row that the desk has no form for."""


class NoneYet(NoteError):
    """A row to a desk that has no program yet."""


class Held(NoteError):
    """A turn that a note holds back; note is the first such note."""

    def __init__(self, note):
        self.note = note
