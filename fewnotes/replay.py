"""Replays: works that go on by the notes of a record."""

from fewnotes.cuts import check_notes, firsts_of, has
from fewnotes.errors import Held, NoHand, Over
from fewnotes.wholes import is_below


class Replay:
    """A works of its own, going on by a record of the touches from there on."""

    def __init__(self, works, record):
        check_notes(record)
        if len(record[0]) != len(works.counts()):
            raise NoHand("not as many hands as the works has")
        self.record = (list(record[0]), sorted(record[1]))
        self.firsts = firsts_of(self.record)
        self.stage = works.twin()
        self.progress = [0 for count in self.record[0]]

    def turn(self, hand):
        """The hand's next touch, done: a tuple (kind, cell, read, written)."""
        if not is_below(hand, len(self.progress)):
            raise NoHand("there is no such hand")
        if self.is_over(hand):
            raise Over("this hand is over, or has done its count")
        holding = self.holding(hand)
        if holding:
            raise Held(holding[0])
        touch = self.stage.turn(hand)
        self.progress[hand] += 1
        return touch

    def is_over(self, hand):
        return self.progress[hand] == self.record[0][hand] or self.stage.how(hand) != "waits"

    def holding(self, hand):
        """The notes that hold the hand's next touch back, by numbers."""
        touch = (hand, self.progress[hand])
        return [first + touch for first in self.firsts.get(touch, []) if not has(self.progress, first)]

    def free(self):
        """The hands whose turn isn't refused, rising."""
        return [hand for hand in range(len(self.progress)) if not self.is_over(hand) and not self.holding(hand)]

    def counts(self):
        """How many touches each hand has done in the replay."""
        return list(self.progress)

    def done(self):
        """Whether all counts are done."""
        return self.progress == self.record[0]

    def works(self):
        """A works in which all is as in the replay's."""
        return self.stage.twin()

    def twin(self):
        """Another replay in which all is as in this one."""
        other = Replay(self.stage, self.record)
        other.progress = list(self.progress)
        return other

    def left(self):
        """The touches of the counts that are left, whether the hands have them or not."""
        touches = []
        for hand, count in enumerate(self.record[0]):
            touches.extend([(hand, k) for k in range(self.progress[hand], count)])
        return touches

    def __len__(self):
        return len(self.left())


def played(works, record, choose):
    """The order of the turns of a replay, of which the def chooses each among the free hands."""
    replay = Replay(works, record)
    order = []
    free = replay.free()
    while free:
        # A list of its own: what the def does to it frees no hand.
        hand = choose(list(free))
        if hand not in free:
            raise NoHand("this hand is not free")
        replay.turn(hand)
        order.append(hand)
        free = replay.free()
    return order
