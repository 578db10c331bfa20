"""Orders gone together: promise 27, and 4 as far as it speaks of these."""

import itertools
import unittest

from callsamples import (
    CALL, EVERY_DEED, LOOK, NO_BOARDS, NO_CALLS, calls_by_chance, chance_for, full_row, no_orders, numbers_at, plain_fits,
)
from joinedasks.errors import NoBoard, NoCalls, NoOrder
from joinedasks.fitting import fits
from joinedasks.together import gone_together
from samples import NO_NUMBERS

# Mostly looks, so that many orders fit.
MOSTLY_LOOKS = [LOOK] * 6 + [(0, 1, 1), (0, 0, 0), (1, None, 2)]


def plus(number):
    return (number, None, None)


def orders_at(board, calls, box):
    """All orders that fit the box's calls alone."""
    return [order for order in itertools.permutations(numbers_at(calls, box)) if plain_fits(board, calls, order)]


class GoneTogether(unittest.TestCase):
    def check(self, board, calls, orders):
        told = gone_together(board, calls, orders)
        self.assertIsInstance(told, tuple)
        self.assertEqual(sorted(told), list(range(len(calls))))
        self.assertTrue(plain_fits(board, calls, told), (board, calls, orders, told))
        self.assertIs(fits(board, calls, told), True)
        for box, order in enumerate(orders):
            self.assertEqual(tuple(number for number in told if calls[number][1] == box), order)

    def test_no_calls(self):
        for boxes in (1, 2, 16):
            self.assertEqual(gone_together((7,) * boxes, (), ((),) * boxes), ())

    def test_one_box(self):
        calls = tuple((at, 0, LOOK, 0, 9, 7) for at in range(4))
        for order in itertools.permutations(range(4)):
            self.assertEqual(gone_together((7,), calls, (order,)), order)

    def test_boxes_without_calls(self):
        calls = ((0, 2, plus(1), 0, 9, 1), (0, 2, plus(1), 0, 9, 0))
        self.assertEqual(gone_together((5, 5, 0, 5), calls, ((), (), (1, 0), ())), (1, 0))

    def test_boxes_that_wait_for_one_another(self):
        # Box 0's first one begins late; what is ahead of it, at box 1, must come first, and so on.
        calls = (
            (0, 0, LOOK, 4, 9, 0), (1, 0, LOOK, 0, 9, 0), (2, 1, LOOK, 3, 3, 0), (3, 1, LOOK, 2, 9, 0), (4, 2, LOOK, 1, 1, 0),
        )
        self.check((0, 0, 0), calls, ((0, 1), (3, 2), (4,)))
        self.assertEqual(gone_together((0, 0, 0), calls, ((0, 1), (3, 2), (4,)))[:3], (4, 3, 2))

    def test_any_orders_of_each_box(self):
        chance = chance_for(271)
        many = 0
        for turn in range(600):
            boxes = chance.choice((1, 2, 3, 4))
            wide = chance.choice((10, 30, 90, 90))
            board, calls, order = calls_by_chance(chance, boxes, chance.randint(1, min(3 * boxes, 7)), wide, 0, MOSTLY_LOOKS)
            fitting = [orders_at(board, calls, box) for box in range(boxes)]
            for orders in list(itertools.product(*fitting))[:40]:
                self.check(board, calls, orders)
                many += 1
        self.assertGreater(many, 800)

    def test_forty_calls(self):
        chance = chance_for(272)
        for turn in range(80):
            boxes = chance.choice((5, 6, 9, 16))
            wide = chance.choice((0, 10, 40, 90, 400))
            board, calls, order = calls_by_chance(chance, boxes, 40, wide, 0, EVERY_DEED)
            orders = tuple(tuple(number for number in order if calls[number][1] == box) for box in range(boxes))
            self.check(board, calls, orders)

    def test_looks_in_any_order_at_sixteen_boxes(self):
        chance = chance_for(273)
        for turn in range(60):
            board = tuple(range(16))
            calls = []
            for at in range(40):
                box, begun = chance.randrange(5) * 3 + at % 2 if at < 30 else at % 16, chance.randint(0, 60)
                if sum(call[1] == box for call in calls) < 8:
                    calls.append((chance.randrange(16), box, LOOK, begun, begun + chance.randint(0, 40), box))
            calls = tuple(calls)
            orders = []
            for box in range(16):
                # Any of those that none is ahead of comes next.
                left, order = numbers_at(calls, box), ()
                while left:
                    free = [number for number in left if all(calls[other][4] >= calls[number][3] for other in left)]
                    order += (chance.choice(free),)
                    left.remove(order[-1])
                orders.append(order)
            self.check(board, calls, tuple(orders))

    def test_all_at_once(self):
        board, calls = full_row(5, 8, 3, 3)
        orders = tuple(tuple(numbers_at(calls, box)[::-1]) for box in range(5))
        self.check(board, calls, orders)

    def test_asked_again(self):
        board, calls = full_row(5, 8, 0, 9)
        orders = tuple(tuple(numbers_at(calls, box)[::-1]) for box in range(5))
        self.assertEqual(gone_together(board, calls, orders), gone_together(board, calls, orders))


class Refusals(unittest.TestCase):
    calls = ((0, 0, LOOK, 0, 9, 4), (1, 1, LOOK, 0, 9, 5), (2, 0, plus(1), 0, 9, 4), (3, 1, LOOK, 8, 9, 5), (4, 1, LOOK, 0, 7, 5))
    board = (4, 5)

    def refused(self, orders):
        with self.assertRaises(NoOrder):
            gone_together(self.board, self.calls, orders)

    def test_right_ones(self):
        for second in ((1, 4, 3), (4, 1, 3), (4, 3, 1)):
            self.assertEqual(sorted(gone_together(self.board, self.calls, ((0, 2), second))), [0, 1, 2, 3, 4])

    def test_one_that_does_not_fit(self):
        self.refused(((2, 0), (1, 4, 3)))
        for second in ((1, 3, 4), (3, 1, 4), (3, 4, 1)):
            self.refused(((0, 2), second))

    def test_rows_too_many_or_too_few(self):
        for orders in ((), ((0, 2),), ((0, 2), (1, 4, 3), ()), ((), (0, 2), (1, 4, 3)), ((1, 4, 3),), ((0, 2, 1, 4, 3),)):
            self.refused(orders)

    def test_numbers_that_are_wrong(self):
        for first in ((), (0,), (2,), (0, 0), (0, 2, 2), (0, 2, 0), (0, 1), (0, 2, 1), (0, 5), (0, -3), (0, 2, None)):
            self.refused((first, (1, 4, 3)))
        for second in ((), (1, 4), (4, 3), (1, 4, 3, 3), (1, 4, 4), (1, 4, 0), (1, 4, 3, 2), (1, 4, 5), (1, -1, 3)):
            self.refused(((0, 2), second))
        self.refused(((1, 4, 3), (0, 2)))

    def test_truths(self):
        self.refused(((False, 2), (1, 4, 3)))
        self.refused(((0, 2), (True, 4, 3)))

    def test_lists(self):
        self.refused([(0, 2), (1, 4, 3)])
        self.refused(([0, 2], (1, 4, 3)))
        self.refused(((0, 2), [1, 4, 3]))

    def test_of_anything(self):
        for thing in NO_NUMBERS + [0, 5]:
            self.refused(thing)
            self.refused((thing, (1, 4, 3)))
            self.refused(((0, 2), thing))
            self.refused(((0, thing), (1, 4, 3)))
            self.refused(((0, 2), (1, 4, thing)))

    def test_what_is_no_order_of_one_box(self):
        looks = tuple((0, 0, LOOK, 0, 9, 4) for at in range(3))
        for order in no_orders(3):
            with self.assertRaises(NoOrder):
                gone_together((4,), looks, (order,))

    def test_no_calls_but_a_row(self):
        for orders in (((0,),), ((), ()), (), [()], (None,)):
            with self.assertRaises(NoOrder):
                gone_together((4,), (), orders)

    def test_no_calls_of_the_board_ahead_of_no_order(self):
        for calls in NO_CALLS:
            for orders in (((0,), ()), ((), ()), None, []):
                with self.assertRaises(NoCalls):
                    gone_together((1, 2), calls, orders)

    def test_no_board_ahead_of_all(self):
        for board in NO_BOARDS:
            for calls, orders in (((), ((),)), ((CALL,), ((0,),)), (None, ((),)), ((), None), ([], [])):
                with self.assertRaises(NoBoard):
                    gone_together(board, calls, orders)

    def test_what_is_handed_in_stays(self):
        orders = ([0, 2], [1, 4, 3])
        self.refused(orders)
        self.assertEqual(orders, ([0, 2], [1, 4, 3]))


if __name__ == "__main__":
    unittest.main()
