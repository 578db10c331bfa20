"""Serial orders: promise 28."""

import itertools
import unittest

from callsamples import (
    CALL, LOOK, NO_BOARDS, NO_CALLS, calls_by_chance, chance_for, no_orders, numbers_at, own_times, plain_serial, with_part,
)
from joinedasks.boards import is_board
from joinedasks.errors import NoBoard, NoCalls, TooMany
from joinedasks.fitting import an_order, are_calls
from joinedasks.serial import a_serial, is_serial, not_together
from samples import BIG

FEW = [(1, None, None), (-1, None, None), LOOK, (0, 1, 1), (0, 0, 0), (1, None, 2)]
# What is no calls here, but is elsewhere.
ALIKE = [
    (CALL, CALL),
    (CALL, with_part(CALL, 1, 1)),
    ((3, 0, LOOK, 4, 9, 1), (2, 0, LOOK, 4, 9, 1), (3, 1, LOOK, 4, 4, 1)),
    ((3, 0, LOOK, 0, 9, 1), (3, 0, LOOK, 1, 9, 1), (3, 0, LOOK, 0, 0, 1)),
    tuple((at, 0, LOOK, at, at, 1) for at in range(7)) + ((6, 1, LOOK, 6, 7, 1),),
    tuple((at, at % 2, LOOK, at, at, 1) for at in range(15)) + ((6, 1, LOOK, 6, 7, 1),),
    tuple((0, at % 2, LOOK, at % 8, 9, 1) for at in range(9)),
]


def plus(number):
    return (number, None, None)


def by_hands(chance, wrong):
    """(board, calls): calls of few hands, in whose answers other times may have a part."""
    board, calls, order = calls_by_chance(chance, chance.choice((1, 2, 3)), chance.randint(1, 6), 0, wrong, FEW)
    hands = chance.choice((1, 2, 3, 6))
    moved = []
    for hand, box, deed, begun, ended, answer in calls:
        begun = chance.randint(0, 60) if chance.random() < 0.5 else begun
        moved.append((hand % hands, box, deed, begun, max(begun, ended), answer))
    return board, own_times(moved)


class IsSerial(unittest.TestCase):
    def test_one_without_one_that_fits(self):
        calls = ((0, 0, plus(1), 5, 6, 0), (1, 0, LOOK, 0, 1, 1))
        self.assertIs(an_order((0,), calls), None)
        self.assertIs(is_serial((0,), calls, (0, 1)), True)
        self.assertIs(is_serial((0,), calls, (1, 0)), False)
        self.assertEqual(a_serial((0,), calls), (0, 1))

    def test_one_that_fits_but_is_not_serial(self):
        calls = ((0, 0, LOOK, 0, 9, 1), (0, 0, plus(1), 1, 9, 0))
        self.assertEqual(an_order((0,), calls), (1, 0))
        self.assertIs(is_serial((0,), calls, (1, 0)), False)
        self.assertIs(a_serial((0,), calls), None)

    def test_as_they_begun_whatever_they_ended(self):
        calls = ((0, 0, LOOK, 1, 2, 0), (0, 1, LOOK, 0, 9, 0), (1, 0, LOOK, 3, 3, 0))
        for order in itertools.permutations(range(3)):
            self.assertIs(is_serial((0, 0), calls, order), order.index(1) < order.index(0), order)

    def test_no_calls(self):
        self.assertIs(is_serial((0,), (), ()), True)
        for order in no_orders(0):
            self.assertIs(is_serial((0,), (), order), False)

    def test_every_order(self):
        chance = chance_for(281)
        for turn in range(80):
            board, calls = by_hands(chance, turn % 2)
            for order in itertools.permutations(range(len(calls))):
                self.assertIs(is_serial(board, calls, order), plain_serial(board, calls, order), (board, calls, order))

    def test_forty(self):
        calls = tuple((at % 16, at % 5, plus(1), at, at, at // 5) for at in range(40))
        self.assertIs(is_serial((0,) * 5, calls, tuple(range(40))), True)
        self.assertIs(is_serial((0,) * 5, calls, (1, 0) + tuple(range(2, 40))), True)
        self.assertIs(is_serial((0,) * 5, calls, (5, 1, 2, 3, 4, 0) + tuple(range(6, 40))), False)
        looks = tuple((at % 16, at % 5, LOOK, at, at, 0) for at in range(40))
        self.assertIs(is_serial((0,) * 5, looks, tuple(range(15, -1, -1)) + tuple(range(16, 40))), True)
        self.assertIs(is_serial((0,) * 5, looks, (16,) + tuple(range(16)) + tuple(range(17, 40))), False)

    def test_what_is_no_order(self):
        for many in (1, 2, 3, 8):
            calls = tuple((at, at % 2, LOOK, 0, 9, 4) for at in range(many))
            self.assertIs(is_serial((4, 4), calls, tuple(range(many))), True)
            for order in no_orders(many):
                self.assertIs(is_serial((4, 4), calls, order), False, order)


class ASerial(unittest.TestCase):
    def right(self, board, calls, told):
        self.assertIsInstance(told, tuple)
        self.assertEqual(sorted(told), list(range(len(calls))))
        self.assertTrue(plain_serial(board, calls, told), (board, calls, told))
        self.assertIs(is_serial(board, calls, told), True)

    def test_no_calls(self):
        self.assertEqual(a_serial((0, 1), ()), ())

    def test_all_orders_gone_through(self):
        chance = chance_for(282)
        found = {True: 0, False: 0}
        for turn in range(400):
            board, calls = by_hands(chance, turn % 2)
            told = a_serial(board, calls)
            orders = itertools.permutations(range(len(calls)))
            there_is = any(plain_serial(board, calls, order) for order in orders)
            found[there_is] += 1
            if there_is:
                self.right(board, calls, told)
            else:
                self.assertIs(told, None, (board, calls))
        self.assertGreater(min(found.values()), 80)

    def test_eight(self):
        calls = tuple((at, 0, plus(1), 50 - at, 60, 7 - at) for at in range(8))
        self.assertEqual(a_serial((0,), calls), tuple(range(7, -1, -1)))
        own = tuple((3, at % 3, LOOK, 50 - at, 60, 5) for at in range(8))
        self.assertEqual(a_serial((5, 5, 5), own), tuple(range(7, -1, -1)))
        self.assertIs(a_serial((5, 5, 5), own[:-1] + (with_part(own[-1], 5, 6),)), None)
        spread = tuple((at, at, plus(1), 0, 9, BIG) for at in range(8))
        self.right((BIG,) * 8, spread, a_serial((BIG,) * 8, spread))
        self.assertIs(a_serial((BIG,) * 8, spread[:-1] + (with_part(spread[-1], 5, -BIG),)), None)

    def test_nine(self):
        for boxes in (2, 9, 16):
            calls = tuple((at, at % boxes, LOOK, 0, 9, 1) for at in range(9))
            self.assertEqual(sorted(a_serial((1,) * boxes, calls[1:])), list(range(8)))
            with self.assertRaises(TooMany):
                a_serial((1,) * boxes, calls)
            # Neither where there is none.
            with self.assertRaises(TooMany):
                a_serial((2,) * boxes, calls)

    def test_forty(self):
        calls = tuple((at % 16, at % 5, LOOK, at, at, 0) for at in range(40))
        with self.assertRaises(TooMany):
            a_serial((0,) * 5, calls)

    def test_asked_again(self):
        chance = chance_for(283)
        for turn in range(40):
            board, calls = by_hands(chance, turn % 2)
            self.assertEqual(a_serial(board, calls), a_serial(board, calls))


class Refusals(unittest.TestCase):
    def test_begun_alike(self):
        for calls in ALIKE:
            self.assertIs(are_calls((1, 1), calls), True, calls)
            for order in (tuple(range(len(calls))), (), None, [0]):
                with self.assertRaises(NoCalls):
                    is_serial((1, 1), calls, order)
            with self.assertRaises(NoCalls):
                a_serial((1, 1), calls)

    def test_unlike_hands_may_begin_alike(self):
        calls = tuple((at, 0, LOOK, 4, 9, 1) for at in range(8))
        self.assertIs(is_serial((1,), calls, tuple(range(8))), True)
        self.assertEqual(sorted(a_serial((1,), calls)), list(range(8)))

    def test_no_calls_of_the_board(self):
        for calls in NO_CALLS:
            for order in ((), (0,), (0, 1), None, []):
                with self.assertRaises(NoCalls):
                    is_serial((1, 2), calls, order)
            with self.assertRaises(NoCalls):
                a_serial((1, 2), calls)

    def test_no_board(self):
        for board in NO_BOARDS:
            for calls in ((), (CALL,), None, [], (CALL, CALL), tuple((at, 0, LOOK, 0, 9, 1) for at in range(9))):
                with self.assertRaises(NoBoard):
                    is_serial(board, calls, ())
                with self.assertRaises(NoBoard):
                    a_serial(board, calls)


class NotTogether(unittest.TestCase):
    def test_what_it_is(self):
        told = not_together()
        self.assertIsInstance(told, tuple)
        board, calls = told
        self.assertTrue(is_board(board))
        self.assertTrue(are_calls(board, calls))
        self.assertLessEqual(len(calls), 8)
        self.assertEqual(len({(call[0], call[3]) for call in calls}), len(calls))

    def test_each_box_alone_has_one(self):
        board, calls = not_together()
        for box in range(len(board)):
            own = numbers_at(calls, box)
            alone = tuple(calls[number] for number in own)
            orders = itertools.permutations(range(len(alone)))
            self.assertTrue(any(plain_serial(board, alone, order) for order in orders))
            self.assertIsNot(a_serial(board, alone), None)

    def test_all_have_none(self):
        board, calls = not_together()
        for order in itertools.permutations(range(len(calls))):
            self.assertFalse(plain_serial(board, calls, order))
            self.assertIs(is_serial(board, calls, order), False)
        self.assertIs(a_serial(board, calls), None)

    def test_asked_again(self):
        self.assertEqual(not_together(), not_together())


if __name__ == "__main__":
    unittest.main()
