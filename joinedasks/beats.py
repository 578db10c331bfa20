"""A net in time: asks wait on its lines, and go on beat by beat."""

from joinedasks.boards import is_ask, need_board
from joinedasks.deeds import joined, made
from joinedasks.errors import NoAsk, NoNumber, NoSide, TooMany
from joinedasks.net import in_line, is_line, is_switch, need_hand, need_net, onward, switch_at
from joinedasks.rounds import side_for
from joinedasks.whole import is_within

MOST_ROOM = 6
MOST_KEPT = 6
MOST_ASKS = 40


def need_sizes(room, kept):
    """Refuses what is no room, and what is no number of joinings that may be kept."""
    if not is_within(room, 1, MOST_ROOM) or not is_within(kept, 0, MOST_KEPT):
        raise NoNumber("there is room for 1 to 6, and 0 to 6 joinings may be kept")


def may_be_lost(k, thing):
    """Whether the thing is a switch, or a side as (0, side)."""
    if not isinstance(thing, tuple) or len(thing) != 2:
        return False
    stage, number = thing
    return is_switch(k, stage, number) or (is_within(stage, 0, 0) and is_line(k, number))


def need_lost(k, thing):
    """Refuses what is no row of switches and sides."""
    if not isinstance(thing, tuple) or not all([may_be_lost(k, part) for part in thing]):
        raise NoSide("what is lost is a row of switches (stage, number) and sides (0, side)")


def joined_at(switch, waiter, comer):
    """The ask that waited, with the one joined in it that came by the switch."""
    box, deed, numbers, met = waiter
    return (box, joined(deed, comer[1]), numbers + comer[2], met + comer[3] + (switch,))


class Net:
    """A net in time, with a board.

    What waits on a line is a tuple (box, deed, numbers, met): of the asks joined in it the numbers, in the
    order of the log, and for each of its joinings the switch at which it came about.
    """

    def __init__(self, k, board, room, kept):
        need_net(k)
        need_sizes(room, kept)
        need_board(board)
        self.depth = k
        self.room = room
        self.most_kept = kept
        self.boxes = list(board)
        self.asks = []
        self.now = 0
        self.lines = {(level, line): [] for level in range(k + 1) for line in range(1 << k)}
        self.keeping = {(stage, number): 0 for stage in range(1, k + 1) for number in range(1 << (k - 1))}
        # For each beat what was done in it; for each ask that is done its answer, and for each that is answered.
        self.done_in = {}
        self.logged = []
        self.found = {}
        self.answers = {}

    def put(self, ask):
        """Lets the ask wait on its hand's line, and tells its number."""
        if not is_ask(self.boxes, ask):
            raise NoAsk("an ask is a tuple (hand, box, deed) of the board")
        hand, box, deed = ask
        need_hand(self.depth, hand)
        number = len(self.asks)
        if number == MOST_ASKS:
            raise TooMany("a net takes forty asks")
        self.asks.append(ask)
        self.lines[(0, hand)].append((box, deed, (number,), ()))
        return number

    def beat(self, lost=None):
        """One beat, with these switches and sides lost: the tuples (number, answer) of what is answered in it."""
        gone = () if lost is None else lost
        need_lost(self.depth, gone)
        self.now += 1
        self.forget()
        self.take(gone)
        # The last stage goes first, so that each ask goes on by one level at most.
        for stage in range(self.depth, 0, -1):
            self.pass_on(stage, gone)
        return self.tell()

    def done_ago(self, many):
        """What was done so many beats ago."""
        return self.done_in.get(self.now - many, ())

    def forget(self):
        """Each switch forgets the joinings whose answers have come back to it."""
        for stage in range(1, self.depth + 1):
            for box, deed, numbers, met in self.done_ago(self.depth - stage + 1):
                for switch in met:
                    if switch[0] == stage:
                        self.keeping[switch] -= 1

    def take(self, gone):
        """Each side does the first that waits there, but for those that are lost."""
        taken = []
        for side in range(1 << self.depth):
            line = self.lines[(self.depth, side)]
            if line and (0, side) not in gone:
                taken.append(line.pop(0))
        self.done_in[self.now] = taken
        for box, deed, numbers, met in taken:
            self.do_asks(box, numbers)

    def do_asks(self, box, numbers):
        """Does the deeds of the asks to the box, and finds their answers."""
        for number in numbers:
            self.found[number] = self.boxes[box]
            self.boxes[box] = made(self.asks[number][2], self.boxes[box])
            self.logged.append(number)

    def pass_on(self, stage, gone):
        """Each switch of the stage lets its in-lines hand on, but for those that are lost."""
        first = self.now & 1
        for number in range(1 << (self.depth - 1)):
            if (stage, number) not in gone:
                self.hand_on(stage, in_line(self.depth, stage, number, first))
                self.hand_on(stage, in_line(self.depth, stage, number, 1 - first))

    def hand_on(self, stage, line):
        """Hands on the first that waits on the in-line, where it can be joined or there is room."""
        coming = self.lines[(stage - 1, line)]
        if not coming:
            return
        box = coming[0][0]
        out = self.lines[(stage, onward(self.depth, stage, line, side_for(self.depth, box)))]
        switch = (stage, switch_at(self.depth, stage, line))
        alike = [place for place, waiter in enumerate(out) if waiter[0] == box]
        if alike and self.keeping[switch] < self.most_kept:
            out[alike[-1]] = joined_at(switch, out[alike[-1]], coming.pop(0))
            self.keeping[switch] += 1
        elif len(out) < self.room:
            out.append(coming.pop(0))

    def tell(self):
        """Answers what was done as many beats ago as there are stages."""
        told = []
        for box, deed, numbers, met in self.done_ago(self.depth):
            told.extend([(number, self.found[number]) for number in numbers])
        self.answers.update(dict(told))
        return tuple(sorted(told))

    def beats(self):
        """How many beats there were."""
        return self.now

    def board(self):
        """The board as it is now."""
        return tuple(self.boxes)

    def log(self):
        """The numbers of the asks that are done, in order."""
        return tuple(self.logged)

    def todo(self):
        """How many asks are not answered."""
        return len(self.asks) - len(self.answers)

    def answer(self, number):
        """What the ask was answered, or None where it was not yet."""
        if not is_within(number, 0, len(self.asks) - 1):
            raise NoNumber("there is no ask of this number")
        return self.answers.get(number)

    def waiting(self, level, line):
        """What waits on the line, in order, as tuples (box, deed, numbers)."""
        if not (is_within(level, 0, self.depth) and is_line(self.depth, line)):
            raise NoSide("the net has no such line")
        return tuple([(box, deed, numbers) for box, deed, numbers, met in self.lines[(level, line)]])

    def joinings(self, stage, number):
        """How many joinings the switch remembers."""
        if not is_switch(self.depth, stage, number):
            raise NoSide("the net has no such switch")
        return self.keeping[(stage, number)]
