"""A net in time by the words of promises 19 to 21, ask by ask and figure by figure, to hold the program against."""

from samples import by_figures, figures_of, plainly


class Bundle:
    """What waits on a line: one ask, or one that others were joined in."""

    def __init__(self, box, number):
        self.box = box
        self.numbers = [number]
        self.joinings = []
        self.done = None


class PlainNet:
    def __init__(self, k, board, room, kept):
        self.k, self.first_board, self.room, self.kept = k, board, room, kept
        self.lines = [[[] for line in range(2 ** k)] for level in range(k + 1)]
        self.asks = []
        self.bundles_done = []
        self.beat_number = 0
        self.answered = {}
        self.remembers = {}

    def put(self, ask):
        self.asks.append(ask)
        self.lines[0][ask[0]].append(Bundle(ask[1], len(self.asks) - 1))

    def log(self):
        return [number for bundle in self.bundles_done for number in bundle.numbers]

    def value_ahead_of(self, number, box):
        """What those ahead of the ask in the log, at its box, make of its first value; of None all of them."""
        value = self.first_board[box]
        for other in self.log():
            if other == number:
                break
            if self.asks[other][1] == box:
                value = plainly(self.asks[other][2], value)
        return value

    def board(self):
        return tuple(self.value_ahead_of(None, box) for box in range(len(self.first_board)))

    def in_lines(self, stage, number):
        figures = figures_of(self.k - 1, number)
        return [by_figures(figures[:stage - 1] + [mark] + figures[stage - 1:]) for mark in (0, 1)]

    def forget(self):
        for switch, joinings in self.remembers.items():
            ago = self.k - switch[0] + 1
            joinings[:] = [own for own in joinings if not self.was_done(own, self.beat_number - ago)]

    def was_done(self, joining, beat):
        return any(bundle.done == beat and joining in bundle.joinings for bundle in self.bundles_done)

    def take(self, lost):
        for side in range(2 ** self.k):
            waiting = self.lines[self.k][side]
            if (0, side) not in lost and waiting:
                bundle = waiting.pop(0)
                bundle.done = self.beat_number
                self.bundles_done.append(bundle)

    def hand_on(self, stage, number, line):
        waiting = self.lines[stage - 1][line]
        if not waiting:
            return
        comer = waiting[0]
        figures = figures_of(self.k, line)
        figures[stage - 1] = figures_of(self.k, comer.box % 2 ** self.k)[stage - 1]
        out = self.lines[stage][by_figures(figures)]
        alike = [waiter for waiter in out if waiter.box == comer.box]
        own = self.remembers.setdefault((stage, number), [])
        if alike and len(own) < self.kept:
            joining = object()
            own.append(joining)
            alike[-1].joinings += comer.joinings + [joining]
            alike[-1].numbers += comer.numbers
        elif len(out) < self.room:
            out.append(comer)
        else:
            return
        waiting.remove(comer)

    def beat(self, lost=()):
        self.beat_number += 1
        self.forget()
        self.take(lost)
        for stage in range(self.k, 0, -1):
            for number in range(2 ** (self.k - 1)):
                if (stage, number) not in lost:
                    lines = self.in_lines(stage, number)
                    for line in lines[::-1] if self.beat_number % 2 else lines:
                        self.hand_on(stage, number, line)
        told = []
        for bundle in self.bundles_done:
            if bundle.done == self.beat_number - self.k:
                told += [(number, self.value_ahead_of(number, bundle.box)) for number in bundle.numbers]
        self.answered.update(told)
        return tuple(sorted(told))
