"""Loads, what is remembered and what comes in a round: promise 18, and 4 as far as it speaks of lines."""

import unittest

from joinedasks.boards import all_of
from joinedasks.deeds import then
from joinedasks.errors import NoAsk, NoBoard, NoHand, NoNet, NoSettings
from joinedasks.loads import came, joined_loads, plain_loads, remembered
from joinedasks.rounds import told_order
from joinedasks.settings import straight
from roundsamples import ADD, NO_ASKS_OF_TWO, no_hands, some_rounds, to_one_box
from samples import NO_NETS, NO_NUMBERS, by_figures, figures_of, no_settings, plain_way, some_settings

DEPTHS = range(5)
LOOK = (0, None, None)


def coming_by(k, asks, box, level, line):
    """Those of the asks to the box whose ways go by the line."""
    return [ask for ask in asks if ask[1] == box and plain_way(k, ask[0], box % 2 ** k)[level] == line]


def together(k, asks, box, firsts):
    """What the asks make, in the told order of their box's side."""
    order = told_order(k, box % 2 ** k, firsts)
    deed = LOOK
    for ask in sorted(asks, key=lambda ask: order.index(ask[0])):
        deed = then(deed, ask[2])
    return deed


def plainly_remembered(k, board, asks, firsts):
    """What each switch remembers, by which asks go through it."""
    found = []
    for stage in range(1, k + 1):
        for number in range(2 ** (k - 1)):
            figures = figures_of(k - 1, number)
            in_lines = [by_figures(figures[:stage - 1] + [mark] + figures[stage - 1:]) for mark in (0, 1)]
            first = in_lines[firsts[stage - 1][number]]
            for box in range(len(board)):
                rows = [coming_by(k, asks, box, stage - 1, line) for line in in_lines]
                if all(rows):
                    own = coming_by(k, asks, box, stage - 1, first)
                    found.append((stage, number, box, together(k, own, box, firsts)))
    return tuple(found)


class Remembered(unittest.TestCase):
    def test_as_written(self):
        asks = tuple((hand, 1, (10 ** hand, None, None)) for hand in range(4))
        told = remembered(2, (0, 0), asks, straight(2))
        self.assertEqual(told, ((1, 0, 1, (1, None, None)), (1, 1, 1, (10, None, None)), (2, 0, 1, (101, None, None))))
        told = remembered(2, (0, 0), asks, ((1, 0), (1, 0)))
        self.assertEqual(told, ((1, 0, 1, (100, None, None)), (1, 1, 1, (10, None, None)), (2, 0, 1, (1010, None, None))))

    def test_several_boxes_at_one_switch(self):
        asks = tuple((hand, hand % 2 * 4, (hand, None, None)) for hand in range(8))
        told = remembered(3, (0,) * 16, asks, straight(3))
        self.assertEqual([row[:3] for row in told], [(1, 0, 0), (1, 1, 4), (1, 2, 0), (1, 3, 4), (2, 0, 0), (2, 3, 4)])
        # Boxes 0 and 8 are both at side 0.
        asks = tuple((hand, hand // 4 * 8, (hand, None, None)) for hand in range(8))
        told = remembered(3, (0,) * 16, asks, straight(3))
        self.assertEqual([row[:3] for row in told], [(2, 0, 0), (2, 0, 8), (2, 1, 0), (2, 1, 8), (3, 0, 0), (3, 0, 8)])

    def test_none_where_nothing_is_joined(self):
        for k in DEPTHS:
            asks = tuple((hand, hand, ADD) for hand in range(2 ** k))
            for row in ((), asks[:1], asks):
                self.assertEqual(remembered(k, (0,) * 16, row, straight(k)), ())

    def test_by_the_ways(self):
        for k in DEPTHS:
            for board, asks, firsts in some_rounds(k):
                told = remembered(k, board, asks, firsts)
                self.assertEqual(told, plainly_remembered(k, board, asks, firsts))
                self.assertEqual(told, tuple(sorted(told)))
                # Each joining makes one ask of two.
                self.assertEqual(len(asks) - len(told), len({ask[1] for ask in asks}))


class Came(unittest.TestCase):
    def test_as_written(self):
        asks = ((1, 2, (1, None, None)), (0, 0, LOOK), (3, 2, (0, 4, 4)))
        self.assertEqual(came(2, (0, 0, 0), asks, straight(2)), ((0, LOOK), (2, (0, 4, 4))))
        self.assertEqual(came(2, (0, 0, 0), asks, ((0, 1), (0, 0))), ((0, LOOK), (2, (0, 5, 5))))
        self.assertEqual(came(2, (0, 0, 0), (), straight(2)), ())
        self.assertEqual(came(0, (0, 0, 0), ((0, 1, ADD),), ()), ((1, ADD),))

    def test_one_for_each_box_that_is_asked(self):
        for k in DEPTHS:
            for board, asks, firsts in some_rounds(k):
                boxes = sorted({ask[1] for ask in asks})
                rows = [(box, together(k, [ask for ask in asks if ask[1] == box], box, firsts)) for box in boxes]
                self.assertEqual(came(k, board, asks, firsts), tuple(rows))

    def test_in_the_told_order_as_one_after_another(self):
        for board, asks, firsts in some_rounds(3):
            order = told_order(3, 0, firsts)
            own = tuple(sorted([ask for ask in asks if ask[1] == 0], key=lambda ask: order.index(ask[0])))
            if own:
                self.assertEqual(came(3, board, own, firsts), ((0, all_of(board, own)[0]),))


class Loads(unittest.TestCase):
    def test_no_asks(self):
        for k in DEPTHS:
            none = ((0,) * 2 ** k,) * (k + 1)
            self.assertEqual(joined_loads(k, (0,), ()), none)
            self.assertEqual(plain_loads(k, (0,), ()), none)

    def test_as_written(self):
        asks = to_one_box(2, 1)
        self.assertEqual(joined_loads(2, (0, 0), asks), ((1, 1, 1, 1), (1, 1, 0, 0), (0, 1, 0, 0)))
        self.assertEqual(plain_loads(2, (0, 0), asks), ((1, 1, 1, 1), (2, 2, 0, 0), (0, 4, 0, 0)))
        asks = ((0, 0, ADD), (3, 4, ADD), (2, 4, ADD))
        self.assertEqual(joined_loads(2, (0,) * 5, asks), ((1, 0, 1, 1), (2, 1, 0, 0), (2, 0, 0, 0)))
        self.assertEqual(plain_loads(2, (0,) * 5, asks), ((1, 0, 1, 1), (2, 1, 0, 0), (3, 0, 0, 0)))

    def test_all_hands_to_one_box(self):
        for k in DEPTHS:
            for box in range(16):
                asks = to_one_box(k, box)
                joined, plain = joined_loads(k, (0,) * 16, asks), plain_loads(k, (0,) * 16, asks)
                for level in range(k + 1):
                    self.assertEqual(sorted(set(joined[level]) - {0}), [1])
                    self.assertEqual(sorted(set(plain[level]) - {0}), [2 ** level])
                    self.assertEqual(sum(joined[level]), 2 ** (k - level))
                    self.assertEqual(sum(plain[level]), 2 ** k)
                self.assertEqual(joined[k][box % 2 ** k], 1)

    def test_by_the_ways(self):
        for k in DEPTHS:
            for board, asks, firsts in some_rounds(k):
                joined, plain = joined_loads(k, board, asks), plain_loads(k, board, asks)
                self.assertEqual((len(joined), len(plain)), (k + 1, k + 1))
                for level in range(k + 1):
                    for line in range(2 ** k):
                        rows = [coming_by(k, asks, box, level, line) for box in range(len(board))]
                        self.assertEqual(joined[level][line], len([row for row in rows if row]))
                        self.assertEqual(plain[level][line], sum(len(row) for row in rows))
                    self.assertEqual((len(joined[level]), len(plain[level])), (2 ** k, 2 ** k))


def with_firsts(ask):
    return ask in (remembered, came)


class Refusals(unittest.TestCase):
    def refused(self, error, ask, k, board, asks, firsts):
        with self.assertRaises(error):
            if with_firsts(ask):
                ask(k, board, asks, firsts)
            else:
                ask(k, board, asks)

    def each(self):
        return [(ask, k) for ask in (remembered, came, joined_loads, plain_loads) for k in DEPTHS]

    def test_no_net(self):
        for ask, depth in self.each():
            for k in NO_NETS:
                for board, asks, firsts in (((0,), (), ()), (None, (), ()), ((0,), None, ()), ([], [], [])):
                    self.refused(NoNet, ask, k, board, asks, firsts)

    def test_no_board(self):
        for ask, k in self.each():
            for board in [thing for thing in NO_NUMBERS if thing != (0,)] + [0, (0,) * 17, [0], (True,), (0, None)]:
                for asks, firsts in (((), straight(k)), (None, straight(k)), (((0, 0, ADD),) * 2, 5)):
                    self.refused(NoBoard, ask, k, board, asks, firsts)

    def test_no_ask(self):
        for ask, k in self.each():
            for asks in NO_ASKS_OF_TWO:
                self.refused(NoAsk, ask, k, (1, 2), asks, straight(k))
                self.refused(NoAsk, ask, k, (1, 2), asks, None)
            self.refused(NoAsk, ask, k, (1, 2), ((0, 0, ADD), (0, 0, ADD), None), straight(k))

    def test_no_hand(self):
        for ask, k in self.each():
            for asks in no_hands(k):
                self.refused(NoHand, ask, k, (1, 2), asks, straight(k))
                self.refused(NoHand, ask, k, (1, 2), asks, [0])

    def test_no_settings(self):
        for ask, k in self.each():
            if with_firsts(ask):
                for firsts in no_settings(k):
                    self.refused(NoSettings, ask, k, (1, 2), ((0, 1, LOOK),), firsts)
                for firsts in some_settings(k)[:3]:
                    self.assertIsInstance(ask(k, (1, 2), (), firsts), tuple)


if __name__ == "__main__":
    unittest.main()
