"""Records: of webs, cut in two and joined; and what both ways of a note tell."""

from fewnotes.cuts import has, is_cut
from fewnotes.errors import NoCut, NoHand
from fewnotes.notes import ahead_of_both, check_fewest, notes, places_of
from fewnotes.programs import MOST_HANDS
from fewnotes.webs import web_of
from fewnotes.wholes import is_below, is_whole
from fewnotes.works import Works


def record_of(hands, web):
    """The record of a web by so many hands."""
    if not is_whole(hands) or not 0 <= hands <= MOST_HANDS:
        raise NoHand("not so many hands")
    doers = [touch[0] for touch in web]
    if not all([is_below(doer, hands) for doer in doers]):
        raise NoHand("a touch of a hand that is not there")
    return ([doers.count(hand) for hand in range(hands)], notes(web))


def cut_record(record, cut):
    """The records of what is done at a cut, and of what is left."""
    if not is_cut(record, cut):
        raise NoCut("a note's second touch is in it, its first one is not")
    # A cut that has a note's second touch has its first one too.
    inside = [note for note in record[1] if has(cut, note[2:])]
    outside = [counted_from(cut, note) for note in record[1] if not has(cut, note[:2])]
    left = [count - done for count, done in zip(record[0], cut)]
    return ((list(cut), inside), (left, outside))


def across(one, other):
    """The notes from the one web to the other, which stands behind it, by numbers, counted through."""
    whole = one + other
    places = places_of(whole)
    return [note for note in notes(whole) if places[note[:2]] < len(one) <= places[note[2:]]]


def both_ways(program, order, note, cells=None):
    """The turns ahead of a note's two touches; what these tell as the note says, and the other way about."""
    web = web_of(program, order, cells)
    check_fewest(web, note)
    places = places_of(web)
    ahead = [web[place][0] for place in ahead_of_both(web, places[note[:2]], places[note[2:]])]
    works = Works(program, cells)
    for hand in ahead:
        works.turn(hand)
    return (ahead, told_by(works, note[0], note[2]), told_by(works, note[2], note[0]))


def counted_from(cut, note):
    """The note between touches that are left, counted anew behind the cut."""
    return (note[0], note[1] - cut[note[0]], note[2], note[3] - cut[note[2]])


def told_by(works, one, other):
    """What a turn of the one hand tells, and then one of the other; the works stays as it is."""
    twin = works.twin()
    first = twin.turn(one)
    return (first, twin.turn(other))
