"""Whole numbers, told from all else that may be handed in."""


def is_whole(value):
    # A truth is an int to Python, but no whole number to this program.
    return isinstance(value, int) and not isinstance(value, bool)


def is_below(value, count):
    """Whether the value is a whole number from 0 on, below the count."""
    # Below 0 Python would count from the end of a list.
    return is_whole(value) and 0 <= value < count
