"""Boards: promises 9 and 10."""

import unittest

from joinedasks.boards import ahead_of, all_of, are_asks, is_board, played
from joinedasks.deeds import done, then
from joinedasks.errors import NoAsk, NoBoard
from samples import BIG, BIG_DEEDS, DEEDS, NO_DEEDS, NO_NUMBERS, ODD_TEXTS, ODD_THINGS, nested, plainly

LOOK = (0, None, None)
ADD = (5, None, None)
BOARD = (10, -20, 30)

NO_BOARDS = ODD_THINGS + ODD_TEXTS + [
    0, 7, (), (0,) * 17, (0,) * 40, [1], [1, 2], (1, [2]), ([1],), ((1,),), ((1, 2),), (1, (2,)),
    (True,), (False,), (0, True), (False, 0), (None,), (0, None), ("0",), (0, "0"), (b"",),
    nested(60, 0, lambda thing: (thing,)), nested(59, (0, 0), lambda thing: (thing, thing)),
]

NO_ASKS_ALONE = NO_NUMBERS + [
    0, (0, 0), (0, 0, ADD, 0), (0, 0, 5, None, None), [0, 0, ADD], (0, 0, [5, None, None]),
    (-1, 0, ADD), (16, 0, ADD), (BIG, 0, ADD), (-BIG, 0, ADD), (True, 0, ADD), (False, 0, ADD), (None, 0, ADD),
    ("0", 0, ADD), ([0], 0, ADD), ((0,), 0, ADD),
    (0, -1, ADD), (0, 3, ADD), (0, 16, ADD), (0, BIG, ADD), (0, True, ADD), (0, False, ADD), (0, None, ADD),
    (0, "0", ADD), (0, [0], ADD), (0, (0,), ADD),
] + [(0, 0, thing) for thing in NO_DEEDS]

NO_ASKS = (
    [thing for thing in NO_NUMBERS if thing != ()]
    + [0, (0, 0, ADD), [(0, 0, ADD)], ([0, 0, ADD],), (((0, 0, ADD),),)]
    + [(thing,) for thing in NO_ASKS_ALONE]
    + [((0, 0, ADD), thing) for thing in NO_ASKS_ALONE]
    + [(thing, (0, 0, ADD)) for thing in NO_ASKS_ALONE]
)


def forty(boxes):
    """Forty asks, of all hands, at so many boxes."""
    deeds = DEEDS + BIG_DEEDS
    return tuple((at * 7 & 15, at * at % boxes, deeds[at * 11 % len(deeds)]) for at in range(40))


class IsBoard(unittest.TestCase):
    def test_boards(self):
        for board in ((0,), (-5,), (BIG,), BOARD, (0,) * 15, (0,) * 16, (1, 1), (-BIG, BIG)):
            self.assertIs(is_board(board), True, board)

    def test_of_anything_else(self):
        for thing in NO_BOARDS:
            self.assertIs(is_board(thing), False, thing)


class AreAsks(unittest.TestCase):
    def test_asks(self):
        right = [(), ((0, 0, ADD),), ((15, 2, LOOK),), ((3, 1, (0, 4, 4)), (3, 1, (0, 4, 4))), forty(3)]
        for asks in right + [((7, 1, deed),) for deed in DEEDS + BIG_DEEDS]:
            self.assertIs(are_asks(BOARD, asks), True, asks)

    def test_every_hand_and_box(self):
        for many in (1, 2, 16):
            for hand in range(-2, 18):
                for box in range(-2, 18):
                    right = 0 <= hand <= 15 and 0 <= box < many
                    self.assertIs(are_asks((0,) * many, ((hand, box, ADD),)), right, (many, hand, box))

    def test_of_anything_else(self):
        for thing in NO_ASKS:
            self.assertIs(are_asks(BOARD, thing), False, thing)

    def test_refusals(self):
        for board in NO_BOARDS:
            for asks in ((), ((0, 0, ADD),), None, "", [0]):
                with self.assertRaises(NoBoard):
                    are_asks(board, asks)


class Played(unittest.TestCase):
    def test_no_asks(self):
        self.assertEqual(played(BOARD, ()), ((), BOARD))

    def test_one_ask(self):
        self.assertEqual(played(BOARD, ((4, 1, ADD),)), ((-20,), (10, -15, 30)))

    def test_several_at_one_box_and_at_several(self):
        asks = ((0, 2, (1, None, 30)), (1, 0, (0, 4, 4)), (0, 2, (-7, None, None)), (2, 0, ADD), (0, 2, LOOK))
        self.assertEqual(played(BOARD, asks), ((30, 10, 30, 4, 23), (9, -20, 23)))

    def test_forty(self):
        for board in ((3,), BOARD, tuple(range(-8, 8))):
            asks = forty(len(board))
            values = dict(enumerate(board))
            answers = []
            for hand, box, deed in asks:
                answers.append(values[box])
                values[box] = plainly(deed, values[box])
            told = (tuple(answers), tuple(values[box] for box in range(len(board))))
            self.assertEqual(played(board, asks), told)
            self.assertEqual(played(board, asks), told)

    def test_what_was_told_may_be_handed_in_again(self):
        board = (10 ** 29, 1)
        for turn in range(50):
            answers, board = played(board, ((0, 0, (board[0], None, None)), (0, 1, LOOK)))
        self.assertEqual(board, (2 ** 50 * 10 ** 29, 1))


class Together(unittest.TestCase):
    def test_no_asks(self):
        self.assertEqual(all_of(BOARD, ()), (LOOK, LOOK, LOOK))
        self.assertEqual(ahead_of(BOARD, ()), ())

    def test_one_ask(self):
        self.assertEqual(all_of(BOARD, ((4, 1, ADD),)), (LOOK, ADD, LOOK))
        self.assertEqual(ahead_of(BOARD, ((4, 1, ADD),)), (LOOK,))

    def test_several(self):
        asks = ((0, 2, (1, None, 30)), (1, 0, (0, 4, 4)), (0, 2, (-7, None, None)), (2, 0, ADD), (0, 2, LOOK))
        self.assertEqual(all_of(BOARD, asks), ((0, 9, 9), LOOK, (-6, None, 23)))
        self.assertEqual(ahead_of(BOARD, asks), (LOOK, LOOK, (1, None, 30), (0, 4, 4), (-6, None, 23)))

    def test_forty(self):
        for board in ((3,), BOARD, tuple(range(-8, 8))):
            asks = forty(len(board))
            answers, behind = played(board, asks)
            self.check_all(board, asks, behind)
            self.check_ahead(board, asks, answers)

    def check_all(self, board, asks, behind):
        together = all_of(board, asks)
        for box, value in enumerate(board):
            deed = LOOK
            for ask in asks:
                deed = then(deed, ask[2]) if ask[1] == box else deed
            self.assertEqual(together[box], deed)
            self.assertEqual(done(deed, value), behind[box])
        self.assertEqual(len(together), len(board))

    def check_ahead(self, board, asks, answers):
        ahead = ahead_of(board, asks)
        self.assertEqual(len(ahead), len(asks))
        for at, (hand, box, deed) in enumerate(asks):
            self.assertEqual(ahead[at], all_of(board, asks[:at])[box])
            self.assertEqual(done(ahead[at], board[box]), answers[at])


class Refusals(unittest.TestCase):
    def test_no_board_ahead_of_no_asks(self):
        for ask_of in (played, all_of, ahead_of):
            for board in NO_BOARDS:
                for asks in ((), ((0, 0, ADD),), ((0, 0, 5),), None):
                    with self.assertRaises(NoBoard):
                        ask_of(board, asks)

    def test_no_asks(self):
        for ask_of in (played, all_of, ahead_of):
            for asks in NO_ASKS:
                with self.assertRaises(NoAsk):
                    ask_of(BOARD, asks)


if __name__ == "__main__":
    unittest.main()
