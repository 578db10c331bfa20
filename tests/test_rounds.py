"""Rounds: promises 15 to 17, and 4 as far as it speaks of what comes all at once."""

import unittest

from joinedasks.boards import played
from joinedasks.errors import NoAsk, NoBoard, NoHand, NoNet, NoSettings, NoSide
from joinedasks.net import meeting
from joinedasks.rounds import one_round, told_order
from joinedasks.settings import straight
from roundsamples import ADD, EVERY_DEED, NO_ASKS_OF_TWO, no_hands, some_rounds, to_one_box
from samples import BIG, NO_NETS, NO_NUMBERS, all_settings, by_figures, figures_of, no_settings, plain_way, some_settings

DEPTHS = range(5)
LOOK = (0, None, None)


def crossed(k):
    """Firsts of 1."""
    return ((1,) * (2 ** k // 2),) * k


class OneRound(unittest.TestCase):
    def check(self, k, board, asks, firsts):
        """As if the asks had come one after another, those to each box in its side's told order."""
        answers, behind = one_round(k, board, asks, firsts)
        self.assertEqual(len(answers), len(asks))
        by_hands = {ask[0]: answer for ask, answer in zip(asks, answers)}
        values = list(board)
        for box in range(len(board)):
            order = told_order(k, box % 2 ** k, firsts)
            own = tuple(sorted([ask for ask in asks if ask[1] == box], key=lambda ask: order.index(ask[0])))
            told, after = played(board, own)
            values[box] = after[box]
            self.assertEqual([by_hands[ask[0]] for ask in own], list(told), (k, board, asks, firsts))
        self.assertEqual(behind, tuple(values))

    def test_as_written(self):
        asks = ((0, 0, (1, None, None)), (1, 0, (10, None, None)))
        self.assertEqual(one_round(1, (5,), asks, ((0,),)), ((5, 6), (16,)))
        self.assertEqual(one_round(1, (5,), asks, ((1,),)), ((15, 5), (16,)))
        self.assertEqual(one_round(1, (5,), asks[::-1], ((0,),)), ((6, 5), (16,)))
        self.assertEqual(one_round(1, (5,), asks[::-1], ((1,),)), ((5, 15), (16,)))

    def test_as_written_two_deep(self):
        asks = tuple((hand, 1, (10 ** hand, None, None)) for hand in range(4))
        # Hands 0 and 2 meet at switch (1, 0), 1 and 3 at (1, 1), all at (2, 0).
        self.assertEqual(one_round(2, (0, 0), asks, straight(2)), ((0, 101, 1, 111), (0, 1111)))
        self.assertEqual(one_round(2, (0, 0), asks, ((1, 0), (0, 0))), ((100, 101, 0, 111), (0, 1111)))
        self.assertEqual(one_round(2, (0, 0), asks, ((0, 1), (0, 0))), ((0, 1101, 1, 101), (0, 1111)))
        self.assertEqual(one_round(2, (0, 0), asks, ((0, 0), (1, 0))), ((1010, 0, 1011, 10), (0, 1111)))
        self.assertEqual(one_round(2, (0, 0), asks, ((0, 0), (0, 1))), ((0, 101, 1, 111), (0, 1111)))

    def test_no_asks(self):
        for k in DEPTHS:
            self.assertEqual(one_round(k, (1, 2, 3), (), straight(k)), ((), (1, 2, 3)))

    def test_one_hand(self):
        for k in DEPTHS:
            for hand in range(2 ** k):
                for box in range(16):
                    board = tuple(range(100, 116))
                    told = ((board[box],), board[:box] + (board[box] + 5,) + board[box + 1:])
                    for firsts in (straight(k), crossed(k)):
                        self.assertEqual(one_round(k, board, ((hand, box, ADD),), firsts), told)

    def test_unlike_boxes(self):
        for k in DEPTHS:
            asks = tuple((hand, (hand * 3 + 1) % 16, (hand, None, None)) for hand in range(2 ** k))
            for firsts in (straight(k), crossed(k)):
                self.assertEqual(one_round(k, (7,) * 16, asks, firsts), played((7,) * 16, asks))

    def test_all_to_one_box_by_all_firsts(self):
        for k in range(4):
            for firsts in all_settings(k)[::k * k // 3 * 7 + 1]:
                self.check(k, (4, -2), to_one_box(k, 1), firsts)

    def test_every_deed(self):
        for at, deed in enumerate(EVERY_DEED):
            other = EVERY_DEED[at * 5 % len(EVERY_DEED)]
            for firsts in some_settings(2):
                self.check(2, (BIG, 3), ((3, 0, deed), (1, 0, other), (2, 0, deed), (0, 1, other)), firsts)

    def test_many_rounds(self):
        for k in DEPTHS:
            for board, asks, firsts in some_rounds(k):
                self.check(k, board, asks, firsts)

    def test_asked_again(self):
        for board, asks, firsts in some_rounds(3):
            self.assertEqual(one_round(3, board, asks, firsts), one_round(3, board, asks, firsts))


class ToldOrder(unittest.TestCase):
    def test_as_written(self):
        self.assertEqual(told_order(0, 0, ()), (0,))
        self.assertEqual(told_order(1, 1, ((0,),)), (0, 1))
        self.assertEqual(told_order(1, 0, ((1,),)), (1, 0))
        self.assertEqual(told_order(2, 0, straight(2)), (0, 2, 1, 3))
        self.assertEqual(told_order(2, 0, ((0, 1), (1, 0))), (3, 1, 0, 2))
        self.assertEqual(told_order(2, 3, ((0, 1), (1, 0))), (0, 2, 3, 1))

    def first_of(self, k, side, one, other, firsts):
        """Which of the two comes by the first in-line of the switch at which they meet."""
        stage = meeting(k, one, other)
        figures = figures_of(k, plain_way(k, one, side)[stage])
        number = by_figures(figures[:stage - 1] + figures[stage:])
        figure = figures_of(k, plain_way(k, one, side)[stage - 1])[stage - 1]
        return one if figure == firsts[stage - 1][number] else other

    def test_all_by_meetings(self):
        for k in DEPTHS:
            for side in range(2 ** k):
                for firsts in some_settings(k)[::k * k // 3 + 1]:
                    order = told_order(k, side, firsts)
                    self.assertEqual(sorted(order), list(range(2 ** k)))
                    pairs = [(one, other) for at, other in enumerate(order) for one in order[:at]]
                    for one, other in pairs:
                        self.assertEqual(self.first_of(k, side, one, other, firsts), one, (k, side, firsts))

    def test_no_net(self):
        for k in NO_NETS:
            for side, firsts in ((0, ()), (0, ((0,),)), (None, ()), (0, None), (99, 99)):
                with self.assertRaises(NoNet):
                    told_order(k, side, firsts)

    def test_no_side(self):
        for k in DEPTHS:
            for side in NO_NUMBERS + [-1, 2 ** k, 16, BIG]:
                for firsts in (straight(k), None, [], ((2,),)):
                    with self.assertRaises(NoSide):
                        told_order(k, side, firsts)

    def test_no_settings(self):
        for k in DEPTHS:
            for firsts in no_settings(k):
                with self.assertRaises(NoSettings):
                    told_order(k, 2 ** k - 1, firsts)


class Refusals(unittest.TestCase):
    def test_no_net(self):
        for k in NO_NETS:
            for board, asks, firsts in (((0,), (), ()), (None, (), ()), ((0,), None, ()), ((0,), (), None), ([], [], [])):
                with self.assertRaises(NoNet):
                    one_round(k, board, asks, firsts)

    def test_no_board(self):
        for k in DEPTHS:
            for board in [thing for thing in NO_NUMBERS if thing != (0,)] + [0, (0,) * 17, [0], (True,), (0, None)]:
                for asks, firsts in (((), straight(k)), (None, straight(k)), ((), None), (((0, 0, ADD),) * 2, 5)):
                    with self.assertRaises(NoBoard):
                        one_round(k, board, asks, firsts)

    def test_no_ask(self):
        for k in DEPTHS:
            for asks in NO_ASKS_OF_TWO:
                for firsts in (straight(k), None, ((2,),)):
                    with self.assertRaises(NoAsk):
                        one_round(k, (1, 2), asks, firsts)

    def test_no_ask_ahead_of_no_hand(self):
        for asks in (((2, 0, ADD), (0, 2, ADD)), ((0, 0, ADD), (0, 0, ADD), None), ((15, 0, 5), (15, 0, ADD))):
            with self.assertRaises(NoAsk):
                one_round(1, (1, 2), asks, straight(1))

    def test_no_hand(self):
        for k in DEPTHS:
            for asks in no_hands(k):
                for firsts in (straight(k), None, [], straight(k) + ((0,),)):
                    with self.assertRaises(NoHand):
                        one_round(k, (1, 2), asks, firsts)

    def test_no_settings(self):
        for k in DEPTHS:
            for firsts in no_settings(k):
                with self.assertRaises(NoSettings):
                    one_round(k, (1, 2), ((0, 1, LOOK),), firsts)


if __name__ == "__main__":
    unittest.main()
