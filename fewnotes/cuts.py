"""Records: their cuts, the orders that keep their notes, and the rings of notes that no order keeps."""

from fewnotes.errors import NoCut, NoNote, NoOrder, TooMany
from fewnotes.notes import is_note
from fewnotes.wholes import is_below


def is_cut(record, cut):
    """Whether the list has each note's first touch wherever it has its second."""
    check_notes(record)
    check_done(record, cut)
    return not broken_notes(record, cut)


def least_cut(record, some):
    """The least cut that has all touches of the list."""
    check_notes(record)
    check_done(record, some)
    cut = list(some)
    broken = broken_notes(record, cut)
    while broken:
        for note in broken:
            cut[note[0]] = max(cut[note[0]], note[1] + 1)
        broken = broken_notes(record, cut)
    return cut


def greatest_cut(record, some):
    """The greatest cut that has no touch beyond the list."""
    check_notes(record)
    check_done(record, some)
    cut = list(some)
    broken = broken_notes(record, cut)
    while broken:
        for note in broken:
            cut[note[2]] = min(cut[note[2]], note[3])
        broken = broken_notes(record, cut)
    return cut


def keeps(record, order):
    """Whether in an order by the record each note's first touch comes ahead of its second."""
    check_notes(record)
    check_order(record, order)
    firsts = firsts_of(record)
    done = [0 for count in record[0]]
    for hand in order:
        if not is_free(record[0], firsts, done, hand):
            return False
        done[hand] += 1
    return True


def first_order(record):
    """The first order, as lists, that keeps the notes, None where there is none."""
    check_notes(record)
    firsts = firsts_of(record)
    done = [0 for count in record[0]]
    order = []
    while done != record[0]:
        free = free_hands(record[0], firsts, done)
        # Whatever is free and done ahead bars nothing: held here, the notes are held in every order.
        if not free:
            return None
        order.append(free[0])
        done[free[0]] += 1
    return order


def ring(record):
    """A ring of as few notes as any, None where there is none."""
    check_notes(record)
    shortest = None
    starts = dict([(note[:2], True) for note in record[1]])
    for start in starts:
        found = ring_from(record, start)
        if found is not None and (shortest is None or len(found) < len(shortest)):
            shortest = found
    return shortest


def ring_shows(record, some):
    """Whether the list is a ring of notes of the record."""
    check_notes(record)
    if not some or not all([is_note(note) and note in record[1] for note in some]):
        return False
    return all([leads_to(note, following) for note, following in zip(some, some[1:] + some[:1])])


def how_many_cuts(record, most=2000):
    """How many cuts can be come to, a touch more each time."""
    check_notes(record)
    return len(ways_to_cuts(record, most))


def how_many_orders(record, most=2000):
    """How many orders keep the notes."""
    check_notes(record)
    return ways_to_cuts(record, most).get(tuple(record[0]), 0)


def check_notes(record):
    if not all([is_between(record[0], note) for note in record[1]]):
        raise NoNote("no note between touches of the record")


def check_done(record, done):
    if not isinstance(done, list) or len(done) != len(record[0]):
        raise NoCut("not a number for each hand")
    if not all([is_below(number, count + 1) for number, count in zip(done, record[0])]):
        raise NoCut("a number below 0 or above the hand's count")


def check_order(record, order):
    hands = len(record[0])
    if not isinstance(order, list) or not all([is_below(hand, hands) for hand in order]):
        raise NoOrder("not a list of the record's hands")
    if [order.count(hand) for hand in range(hands)] != record[0]:
        raise NoOrder("a hand too often or too seldom")


def is_between(counts, note):
    """Whether a note is one between touches of hands with these counts."""
    if not is_note(note) or not is_below(note[0], len(counts)) or not is_below(note[2], len(counts)):
        return False
    return is_below(note[1], counts[note[0]]) and is_below(note[3], counts[note[2]])


def has(done, touch):
    return touch[1] < done[touch[0]]


def broken_notes(record, done):
    """The notes of whose touches the second alone is done."""
    return [note for note in record[1] if has(done, note[2:]) and not has(done, note[:2])]


def firsts_of(record):
    """By the second touches of the notes, the first ones."""
    firsts = {}
    for note in record[1]:
        firsts.setdefault(note[2:], []).append(note[:2])
    return firsts


def is_free(counts, firsts, done, hand):
    """Whether the hand has a touch left, and all that the notes have ahead of it is done."""
    if done[hand] == counts[hand]:
        return False
    return all([has(done, first) for first in firsts.get((hand, done[hand]), [])])


def free_hands(counts, firsts, done):
    return [hand for hand in range(len(counts)) if is_free(counts, firsts, done, hand)]


def ways_to_cuts(record, most):
    """By cut that can be come to, a tuple: by how many orders of its touches."""
    firsts = firsts_of(record)
    ways = {}
    latest = {tuple([0 for count in record[0]]): 1}
    while latest:
        ways.update(latest)
        if len(ways) > most:
            raise TooMany("more cuts than the bound")
        further = {}
        for cut in latest:
            for hand in free_hands(record[0], firsts, cut):
                longer = cut[:hand] + (cut[hand] + 1,) + cut[hand + 1:]
                further[longer] = further.get(longer, 0) + latest[cut]
        latest = further
    return ways


def leads_to(note, following):
    """Whether a ring may go from the note to the following one."""
    return note[2] == following[0] and note[3] <= following[1]


def ring_from(record, start):
    """A shortest ring from the start, a hand's touch, back to it or to one ahead of it, None where there is none."""
    # By hand: the earliest touch of it that so many notes lead to, and these notes.
    chains = {start[0]: (start[1], [])}
    # A shortest ring comes to no hand twice: it would be two rings.
    for length in range(len(record[0])):
        chains = longer_chains(record, chains)
        back = chains.get(start[0])
        if back is not None and back[0] <= start[1]:
            return back[1]
    return None


def longer_chains(record, chains):
    """The chains by one note more; to each hand one that comes to its earliest touch, as this leads on to the most."""
    longer = {}
    for note in record[1]:
        chain = chains.get(note[0])
        if chain is not None and chain[0] <= note[1]:
            if note[2] not in longer or note[3] < longer[note[2]][0]:
                longer[note[2]] = (note[3], chain[1] + [note])
    return longer
