"""Notes: the fewest between touches that meet by which a web is told, and what comes of leaving one out."""

from fewnotes.errors import NoNote
from fewnotes.webs import is_order, is_step, names, same_run, steps_left, touches_meet
from fewnotes.wholes import is_whole


def notes(web):
    """The fewest notes between touches that meet which are enough for the web, by numbers."""
    named = names(web)
    knowns = []
    told = []
    for place, name in enumerate(named):
        found = bare_steps(web, named, knowns, place)
        told.extend(notes_to(named, found[0], name))
        knowns.append(found[1])
    return sorted(told)


def enough(web, some):
    """Whether from each touch there is a way, by the hands' own order and these notes, to all later ones it meets."""
    places = places_of(web)
    check_strict(places, some)
    named = names(web)
    knowns = knowns_by(named, steps_by(places, some))
    for later, known in enumerate(knowns):
        for earlier in range(later):
            if touches_meet(web[earlier], web[later]) and not is_known(named[earlier], known):
                return False
    return True


def parting(web, note):
    """Two orders that are alike but for the note's two touches, and keep all but this one of the web's notes."""
    check_fewest(web, note)
    places = places_of(web)
    one = places[note[:2]]
    other = places[note[2:]]
    # No way leads over these from the one to the other: so the two may stand side by side behind them.
    ahead = ahead_of_both(web, one, other)
    behind = [place for place in range(len(web)) if place not in ahead and place not in (one, other)]
    return (ahead + [one, other] + behind, ahead + [other, one] + behind)


def parting_shows(web, note, paper):
    """Whether the two orders of a paper are such as parting tells for the note."""
    check_fewest(web, note)
    first = paper[0]
    second = paper[1]
    if not is_order(web, first) or not is_order(web, second):
        return False
    places = places_of(web)
    # An order that keeps all the notes tells the same run. All but this one the second keeps then, too: it turns no
    # others about.
    return are_turned(first, second, places[note[:2]], places[note[2:]]) and same_run(web, first)


def is_note(value):
    """Whether a value is a note, between touches of whatever web or record."""
    if not isinstance(value, tuple) or len(value) != 4:
        return False
    return all([is_whole(number) for number in value]) and value[0] != value[2]


def is_strict(places, note):
    """Whether a note is one between touches of the web of these places, the earlier one first."""
    if not is_note(note) or note[:2] not in places or note[2:] not in places:
        return False
    return places[note[:2]] < places[note[2:]]


def check_strict(places, some):
    if not all([is_strict(places, note) for note in some]):
        raise NoNote("no note from a touch of the web to a later one of another hand")


def check_fewest(web, note):
    # Asked as well whether it is a note: to Python True is 1, and so (True, ..) among the notes.
    if not is_note(note) or note not in notes(web):
        raise NoNote("none of the notes of the web")


def places_of(web):
    """By the names of the web's touches, their places."""
    places = {}
    for place, name in enumerate(names(web)):
        places[name] = place
    return places


def ahead_of_both(web, one, other):
    """The places that must come ahead of the two places of a note, without the two, in the web's order."""
    # What must come ahead of the one must come ahead of the other too, as the one itself must.
    left = steps_left(web, 0, other)
    return [place for place in range(other) if place in left and place != one]


def notes_to(named, bare, name):
    """The notes to the touch of this name from those at the bare places; its own hand's order needs none."""
    return [named[earlier] + name for earlier in bare if named[earlier][0] != name[0]]


def bare_steps(web, named, knowns, place):
    """The places from which there is no way to this one but the step itself; and what is known to this one.

    What is known to a place is, by hand, how many of its touches must come ahead of the place, its own touch counted
    among these.
    """
    bare = []
    known = {}
    # From the back: whatever may lie on a longer way has been seen then.
    for earlier in range(place - 1, -1, -1):
        if is_step(web, earlier, place) and not is_known(named[earlier], known):
            bare.append(earlier)
            learn(known, knowns[earlier])
    learn(known, {named[place][0]: named[place][1] + 1})
    return (bare, known)


def steps_by(places, some):
    """The steps, as pairs of places: from each touch to its hand's next one, and by the notes."""
    steps = [(places[(name[0], name[1] - 1)], places[name]) for name in places if name[1] > 0]
    steps.extend([(places[note[:2]], places[note[2:]]) for note in some])
    return steps


def knowns_by(named, steps):
    """For each place what is known to it where these steps, each to a later place, are the only ones."""
    sources = [[] for name in named]
    for step in steps:
        sources[step[1]].append(step[0])
    knowns = []
    for place, name in enumerate(named):
        known = {name[0]: name[1] + 1}
        for source in sources[place]:
            learn(known, knowns[source])
        knowns.append(known)
    return knowns


def is_known(name, known):
    return name[1] < known.get(name[0], 0)


def learn(known, more):
    for hand in more:
        known[hand] = max(known.get(hand, 0), more[hand])


def are_turned(first, second, one, other):
    """Whether two orders are alike but that the one and the other, neighbours in the first, are turned about."""
    k = first.index(one)
    return first[k:k + 2] == [one, other] and second == first[:k] + [other, one] + first[k + 2:]
