"""Strict notes: the fewest between each two hands by themselves, and wants that show that fewer don't do."""

from fewnotes.errors import NoNote
from fewnotes.notes import check_strict, is_strict, places_of
from fewnotes.webs import names, touches_meet


def meets_want(web, note, want):
    """Whether the strict note meets the want."""
    places = places_of(web)
    check_strict(places, [note])
    if not is_want(web, places, want):
        raise NoNote("no note from a touch of the web to a later one that it meets")
    return meets(note, want)


def strict_notes(web):
    """For each hand and each other one the fewest strict notes that meet all wants, by numbers."""
    return sorted([each[1] for each in wants_with_notes(web)])


def wants_apart(web):
    """As many wants as there are strict notes, no two of which one strict note meets."""
    return [each[0] for each in wants_with_notes(web)]


def apart_shows(web, wants):
    """Whether this is a list of wants, no two of which one strict note meets."""
    places = places_of(web)
    if not all([is_want(web, places, want) for want in wants]):
        return False
    # By the second touches: each want that is apart from its neighbour is apart from all ahead of this too.
    in_turn = sorted(wants, key=lambda want: (want[0], want[2], want[3]))
    for want, following in zip(in_turn, in_turn[1:]):
        if hands_of(want) == hands_of(following) and places[following[:2]] < places[want[2:]]:
            return False
    return True


def is_want(web, places, note):
    return is_strict(places, note) and touches_meet(web[places[note[:2]]], web[places[note[2:]]])


def meets(note, want):
    return hands_of(note) == hands_of(want) and note[1] >= want[1] and note[3] <= want[3]


def hands_of(note):
    return (note[0], note[2])


def wants_with_notes(web):
    """The wants by which the strict notes are found, each with its note, by the hands, then in the order found."""
    places = places_of(web)
    wants = wants_by_hands(web)
    found = []
    for hands in sorted(wants):
        left = wants[hands]
        while left:
            want = min(left, key=lambda each: (each[3], -each[1]))
            note = note_for(web, places, want)
            found.append((want, note))
            left = [each for each in left if not meets(note, each)]
    return found


def wants_by_hands(web):
    """By the two hands that they lead from and to, the wants of the web."""
    named = names(web)
    wants = {}
    for later in range(len(web)):
        for earlier in range(later):
            if touches_meet(web[earlier], web[later]):
                want = named[earlier] + named[later]
                wants.setdefault(hands_of(want), []).append(want)
    return wants


def note_for(web, places, want):
    """The note to the want's second touch from the last touch of the want's first hand ahead of it."""
    ahead = [touch for touch in web[:places[want[2:]]] if touch[0] == want[0]]
    return (want[0], len(ahead) - 1) + want[2:]
