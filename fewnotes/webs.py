"""Webs: the touches of a run in their order, and which must come ahead of which."""

from fewnotes.errors import NoOrder, NoPlace
from fewnotes.wholes import is_below
from fewnotes.works import Works


def web_of(program, order, cells=None):
    """The web of a run."""
    works = Works(program, cells)
    web = []
    for hand in order:
        touch = works.turn(hand)
        web.append((hand, touch[0], touch[1]))
    return web


def touches_of(program, order, cells=None):
    """The touches of a run, a list for each hand of the program."""
    works = Works(program, cells)
    touches = [[] for rows in program[1]]
    for hand in order:
        touch = works.turn(hand)
        touches[hand].append(touch)
    return touches


def names(web):
    """For each place the touch's hand, and which of this hand's touches it is."""
    counts = {}
    told = []
    for touch in web:
        k = counts.get(touch[0], 0)
        told.append((touch[0], k))
        counts[touch[0]] = k + 1
    return told


def meet(web, one, other):
    """Whether the touches at two places meet."""
    check_places(web, one, other)
    return touches_meet(web[one], web[other])


def must_ahead(web, one, other):
    """Whether the one place must come ahead of the other."""
    return way(web, one, other) is not None


def way(web, one, other):
    """The first of the shortest ways from the one place to the other, None where there is none."""
    check_places(web, one, other)
    if one >= other:
        return None
    left = steps_left(web, one, other)
    if one not in left:
        return None
    places = [one]
    while places[-1] != other:
        here = places[-1]
        nearer = [place for place in left if left[place] == left[here] - 1 and is_step(web, here, place)]
        places.append(min(nearer))
    return places


def same_run(web, order):
    """Whether an order of the web's places tells the same run."""
    if not is_order(web, order):
        raise NoOrder("not all the places of the web, each once")
    for k, place in enumerate(order):
        # A way is kept where each of its steps is.
        if any([is_step(web, behind, place) for behind in order[k + 1:]]):
            return False
    return True


def check_places(web, one, other):
    if not is_below(one, len(web)) or not is_below(other, len(web)):
        raise NoPlace("there is no such place in the web")


def touches_meet(one, other):
    if one[0] == other[0] or one[2] != other[2]:
        return False
    return one[1] != "load" or other[1] != "load"


def is_step(web, place, later):
    """Whether a way may go from the place straight to the later one."""
    if place >= later:
        return False
    return web[place][0] == web[later][0] or touches_meet(web[place], web[later])


def steps_left(web, one, other):
    """By place, from the one to the other: the fewest steps to the other, where there is a way."""
    left = {other: 0}
    # From the back, as steps lead to later places alone.
    for here in range(other - 1, one - 1, -1):
        steps = [left[place] for place in left if is_step(web, here, place)]
        if steps:
            left[here] = 1 + min(steps)
    return left


def is_order(web, order):
    if not isinstance(order, list) or not all([is_below(place, len(web)) for place in order]):
        return False
    return sorted(order) == list(range(len(web)))
