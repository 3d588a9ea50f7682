"""Works: programs going, a touch at a time."""

from fewnotes.errors import NoHand, NoNumber, Over
from fewnotes.programs import BOXES, cell_of
from fewnotes.wholes import is_below

ROUND = 1000
MOST_UNTOUCHING = 60


class Hand:
    """One hand of a works, going by its rows; its state is as the works tells it."""

    def __init__(self, rows):
        self.rows = rows
        self.at = 0
        self.in_boxes = [0 for box in BOXES]
        self.sayings = []
        self.state = "waits"

    def another(self):
        """Another hand in which all is as in this one."""
        other = Hand(self.rows)
        other.at = self.at
        other.in_boxes = list(self.in_boxes)
        other.sayings = list(self.sayings)
        other.state = self.state
        return other

    def picture(self):
        """All by which a hand is like another one."""
        # Where a hand is over, the row at which it stopped is told to nobody.
        row = self.at if self.state == "waits" else None
        return (self.state, row, list(self.in_boxes), list(self.sayings))

    def lead_on(self):
        """Goes on up to the next touch, the end, or too many rows without a touch."""
        done = 0
        while self.at < len(self.rows) and cell_of(self.rows[self.at]) is None:
            if done == MOST_UNTOUCHING:
                self.state = "lost"
                return
            self.do(self.rows[self.at])
            done += 1
        self.state = "waits" if self.at < len(self.rows) else "ends"

    def do(self, row):
        """Does a row that touches no cell."""
        self.at += 1
        if row[0] == "let":
            self.take(row[1], self.value_of(row[2]))
        elif row[0] == "say":
            self.sayings.append(self.value_of(row[1]))
        elif row[0] == "go" or not self.holds(row):
            self.at = row[-1]

    def holds(self, row):
        """Whether what an unless row asks is so."""
        left = self.value_of(row[2])
        right = self.value_of(row[3])
        return left == right if row[1] == "=" else left < right

    def take(self, box, number):
        self.in_boxes[BOXES.index(box)] = number

    def value_of(self, part):
        if part[0] == "number":
            return part[1] % ROUND
        if part[0] == "box":
            return self.in_boxes[BOXES.index(part[1])]
        left = self.value_of(part[1])
        right = self.value_of(part[2])
        return (left + right if part[0] == "plus" else left - right) % ROUND


class Works:
    """A program going: its cells, and its hands between their touches."""

    def __init__(self, program, cells=None):
        if cells is None:
            cells = [0 for cell in range(program[0])]
        check_numbers(cells, program[0])
        self.program = (program[0], [list(rows) for rows in program[1]])
        self.numbers = list(cells)
        self.hands = [Hand(rows) for rows in self.program[1]]
        # A list of them, not a count: the len of a works is the len of a list.
        self.turns = []
        for one in self.hands:
            one.lead_on()

    def turn(self, hand):
        """The hand's next touch, done: a tuple (kind, cell, read, written)."""
        one = self.hand_of(hand)
        if one.state != "waits":
            raise Over("this hand is over")
        touch = self.touch_by(one)
        one.at += 1
        one.lead_on()
        self.turns.append(hand)
        return touch

    def touch_by(self, one):
        row = one.rows[one.at]
        cell = cell_of(row)
        read = None if row[0] == "store" else self.numbers[cell]
        # Reckoned ahead of what is taken: a swap's sum may ask for the box that it fills.
        written = None if row[0] == "load" else one.value_of(row[-1])
        if read is not None:
            one.take(row[1], read)
        if written is not None:
            self.numbers[cell] = written
        return (row[0], cell, read, written)

    def cells(self):
        """The numbers in the cells."""
        return list(self.numbers)

    def boxes(self, hand):
        """The numbers in the hand's boxes, by the order of their letters."""
        return list(self.hand_of(hand).in_boxes)

    def said(self, hand):
        """What the hand has said."""
        return list(self.hand_of(hand).sayings)

    def how(self, hand):
        """How the hand is: it waits, ends or is lost."""
        return self.hand_of(hand).state

    def counts(self):
        """How many touches each hand has done."""
        return [self.turns.count(hand) for hand in range(len(self.hands))]

    def twin(self):
        """Another works in which all is as in this one."""
        other = Works(self.program, self.numbers)
        other.hands = [one.another() for one in self.hands]
        other.turns = list(self.turns)
        return other

    def hand_of(self, hand):
        if not is_below(hand, len(self.hands)):
            raise NoHand("there is no such hand")
        return self.hands[hand]

    def picture(self):
        """All by which a works is like another one."""
        hands = [one.picture() for one in self.hands]
        return (self.program, self.cells(), hands, self.counts())

    def __eq__(self, other):
        return isinstance(other, Works) and self.picture() == other.picture()

    def __len__(self):
        return len(self.turns)


def check_numbers(cells, count):
    if not isinstance(cells, list) or len(cells) != count:
        raise NoNumber("not as many numbers as cells")
    if not all([is_below(number, ROUND) for number in cells]):
        raise NoNumber("a number out of its bounds")
