"""Recorders: the notes of a run, taken as it goes."""

from fewnotes.errors import NoHand
from fewnotes.notes import bare_steps, notes_to
from fewnotes.programs import MOST_HANDS
from fewnotes.texts import record_text
from fewnotes.wholes import is_below, is_whole


class Recorder:
    """The touches that were told so far, and the fewest notes of them."""

    def __init__(self, hands):
        if not is_whole(hands) or not 1 <= hands <= MOST_HANDS:
            raise NoHand("not so many hands")
        self.web = []
        self.named = []
        self.knowns = []
        self.taken = []
        # By hand, the places of its touches in the web.
        self.places = [[] for hand in range(hands)]

    def did(self, hand, kind, cell):
        """Takes a touch; tells the notes that it brings, by numbers."""
        check_hand(self.places, hand)
        place = len(self.web)
        name = (hand, len(self.places[hand]))
        self.web.append((hand, kind, cell))
        self.named.append(name)
        self.places[hand].append(place)
        found = bare_steps(self.web, self.named, self.knowns, place)
        self.knowns.append(found[1])
        # Later touches lie on no way between earlier ones: what is brought once is among the notes for good.
        brought = sorted(notes_to(self.named, found[0], name))
        self.taken.extend(brought)
        return brought

    def notes(self):
        """The notes so far, by numbers."""
        return sorted(self.taken)

    def counts(self):
        """How many touches each hand has."""
        return [len(places) for places in self.places]

    def known(self, hand):
        """For each hand how many of its touches must come ahead of this hand's last one, this one counted as well."""
        check_hand(self.places, hand)
        known = self.knowns[self.places[hand][-1]] if self.places[hand] else {}
        return [known.get(other, 0) for other in range(len(self.places))]

    def twin(self):
        """Another recorder in which all is as in this one."""
        other = Recorder(len(self.places))
        other.web = list(self.web)
        other.named = list(self.named)
        other.knowns = list(self.knowns)
        other.taken = list(self.taken)
        other.places = [list(places) for places in self.places]
        return other

    def __eq__(self, other):
        if not isinstance(other, Recorder):
            return False
        return self.counts() == other.counts() and self.notes() == other.notes()

    def __len__(self):
        return len(self.taken)

    def __str__(self):
        return str(record_text((self.counts(), self.notes())))


def check_hand(places, hand):
    if not is_below(hand, len(places)):
        raise NoHand("there is no such hand")
