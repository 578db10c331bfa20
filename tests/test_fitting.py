"""Calls and orders that fit: promise 26, and 4 as far as it speaks of these."""

import itertools
import unittest

from callsamples import (
    ADD, CALL, EVERY_DEED, LOOK, NO_BOARDS, NO_CALLS, calls_by_chance, chance_for, full_row, no_orders, numbers_at,
    plain_fits, with_part,
)
from joinedasks.errors import NoBoard, NoCalls
from joinedasks.fitting import an_order, are_calls, fits
from samples import BIG

FEW = [(1, None, None), (-1, None, None), LOOK, (0, 1, 1), (0, 0, 0), (1, None, 2)]


def plus(number):
    return (number, None, None)


class AreCalls(unittest.TestCase):
    def test_calls(self):
        for calls in [
            (), (CALL,), (CALL, CALL), (CALL,) * 8, ((15, 1, LOOK, 0, 0, -7),), ((0, 0, ADD, 3, 3, 0),),
            ((0, 0, ADD, BIG, BIG, -BIG),), ((0, 0, ADD, 0, BIG, BIG),), (CALL,) * 8 + (with_part(CALL, 1, 1),) * 8,
        ] + [((3, 1, deed, 0, 1, 2),) for deed in EVERY_DEED]:
            self.assertIs(are_calls((1, 2), calls), True, calls)

    def test_how_many(self):
        for boxes in (1, 2, 4, 5, 6, 16):
            for many in range(0, 8 * boxes + 1):
                calls = tuple((at % 16, at % boxes, ADD, at, at, 0) for at in range(many))
                self.assertIs(are_calls((0,) * boxes, calls), many <= 40, (boxes, many))

    def test_how_many_at_one_box(self):
        for boxes in (1, 3, 16):
            for box in range(boxes):
                at_box = with_part(CALL, 1, box)
                others = tuple(with_part(CALL, 1, other) for other in range(boxes) if other != box)
                self.assertIs(are_calls((0,) * boxes, (at_box,) * 8 + others), True)
                self.assertIs(are_calls((0,) * boxes, (at_box,) * 9 + others), False)
                self.assertIs(are_calls((0,) * boxes, others + (at_box,) * 9), False)
        self.assertIs(are_calls((0,), (CALL,) * 40), False)

    def test_begun_and_ended(self):
        for begun in range(-3, 4):
            for ended in range(-3, 4):
                self.assertIs(are_calls((0,), ((0, 0, ADD, begun, ended, 0),)), 0 <= begun <= ended, (begun, ended))

    def test_truths_in_every_place(self):
        right = (1, 1, (1, 0, None), 0, 1, 1)
        self.assertIs(are_calls((0, 0), (right,)), True)
        for place in (0, 1, 3, 4, 5):
            for truth in (True, False):
                self.assertIs(are_calls((0, 0), (with_part(right, place, truth),)), False, (place, truth))
        for deed in ((True, 0, None), (1, False, None), (0, 0, True), (False, None, None), (0, True, True)):
            self.assertIs(are_calls((0, 0), (with_part(right, 2, deed),)), False, deed)

    def test_hands_and_boxes(self):
        for many in (1, 2, 16):
            for hand in range(-2, 18):
                for box in range(-2, 18):
                    right = 0 <= hand <= 15 and 0 <= box < many
                    self.assertIs(are_calls((0,) * many, ((hand, box, ADD, 1, 2, 0),)), right, (many, hand, box))

    def test_of_anything_else(self):
        for thing in NO_CALLS:
            self.assertIs(are_calls((1, 2), thing), False, thing)

    def test_no_board(self):
        for board in NO_BOARDS:
            for calls in ((), (CALL,), None, "", [0], (CALL,) * 41):
                with self.assertRaises(NoBoard):
                    are_calls(board, calls)


class Fits(unittest.TestCase):
    def test_as_written(self):
        calls = ((0, 0, plus(1), 0, 9, 5), (1, 0, plus(2), 0, 9, 6), (2, 0, LOOK, 0, 9, 8))
        for order in itertools.permutations(range(3)):
            self.assertIs(fits((5,), calls, order), order == (0, 1, 2))

    def test_by_a_call_that_is_ahead(self):
        calls = ((0, 0, LOOK, 5, 6, 7), (1, 0, LOOK, 0, 4, 7), (1, 1, LOOK, 7, 8, 1))
        for order in itertools.permutations(range(3)):
            self.assertIs(fits((7, 1), calls, order), order == (1, 0, 2))

    def test_an_ended_that_is_just_the_begun(self):
        for ended in range(4, 8):
            calls = ((0, 0, LOOK, 0, ended, 7), (1, 1, LOOK, 5, 9, 7))
            self.assertIs(fits((7, 7), calls, (0, 1)), True)
            self.assertIs(fits((7, 7), calls, (1, 0)), ended >= 5)

    def test_a_hands_calls_may_be_turned_where_they_overlap(self):
        calls = ((3, 0, LOOK, 0, 5, 1), (3, 0, plus(1), 5, 5, 0))
        self.assertIs(fits((0,), calls, (1, 0)), True)
        self.assertIs(fits((0,), calls, (0, 1)), False)

    def test_no_calls(self):
        self.assertIs(fits((1, 2), (), ()), True)
        for order in no_orders(0):
            self.assertIs(fits((1, 2), (), order), False, order)

    def test_every_order(self):
        chance = chance_for(261)
        for turn in range(60):
            boxes = chance.choice((1, 1, 2, 3))
            wide, wrong = chance.choice((0, 5, 10, 30)), int(turn >= 30)
            board, calls, order = calls_by_chance(chance, boxes, chance.randint(1, 5), wide, wrong, FEW)
            if not wrong:
                self.assertIs(fits(board, calls, order), True)
            for other in itertools.permutations(range(len(calls))):
                self.assertIs(fits(board, calls, other), plain_fits(board, calls, other), (board, calls, other))

    def test_forty(self):
        chance = chance_for(262)
        for turn in range(30):
            board, calls, order = calls_by_chance(chance, chance.choice((5, 8, 16)), 40, chance.choice((0, 20, 400)))
            self.assertEqual(len(calls), 40)
            self.assertIs(fits(board, calls, order), True)
            for swap in range(39):
                other = order[:swap] + (order[swap + 1], order[swap]) + order[swap + 2:]
                self.assertIs(fits(board, calls, other), plain_fits(board, calls, other))

    def test_what_is_no_order(self):
        for many in (1, 2, 3, 8):
            calls = tuple((0, at % 2, LOOK, 0, 9, 4) for at in range(many))
            self.assertIs(fits((4, 4), calls, tuple(range(many))), True)
            for order in no_orders(many):
                self.assertIs(fits((4, 4), calls, order), False, order)

    def test_no_board(self):
        for board in NO_BOARDS:
            for calls, order in (((), ()), ((CALL,), (0,)), (None, None), ([], [])):
                with self.assertRaises(NoBoard):
                    fits(board, calls, order)

    def test_no_calls_of_the_board(self):
        for calls in NO_CALLS:
            for order in ((), (0,), (0, 1), None, []):
                with self.assertRaises(NoCalls):
                    fits((1, 2), calls, order)

    def test_asked_again_and_what_is_handed_in_stays(self):
        calls = ((0, 0, plus(1), 0, 9, 5), (1, 0, plus(2), 0, 9, 6))
        order = [0, 1]
        for turn in range(2):
            self.assertIs(fits((5,), calls, (0, 1)), True)
            self.assertIs(fits((5,), calls, order), False)
            self.assertEqual((order, an_order((5,), calls)), ([0, 1], (0, 1)))


class AnOrder(unittest.TestCase):
    def right(self, board, calls, told):
        self.assertIsInstance(told, tuple)
        self.assertEqual(sorted(told), list(range(len(calls))))
        self.assertTrue(plain_fits(board, calls, told), (board, calls, told))
        self.assertIs(fits(board, calls, told), True)

    def test_no_calls(self):
        self.assertEqual(an_order((3,), ()), ())
        self.assertEqual(an_order((3,) * 16, ()), ())

    def test_one_call(self):
        self.assertEqual(an_order((3,), ((0, 0, ADD, 4, 4, 3),)), (0,))
        self.assertIs(an_order((3,), ((0, 0, ADD, 4, 4, 2),)), None)
        self.assertIs(an_order((3, 2), ((0, 0, ADD, 4, 4, 2),)), None)

    def test_only_one_fits(self):
        self.assertEqual(an_order((0,), tuple((at, 0, plus(1), 0, 9, 7 - at) for at in range(8))), tuple(range(7, -1, -1)))
        self.assertEqual(an_order((0,), ((0, 0, LOOK, 4, 5, 0), (0, 0, LOOK, 2, 3, 0), (0, 0, LOOK, 0, 1, 0))), (2, 1, 0))
        calls = ((0, 0, LOOK, 8, 9, 0), (0, 1, LOOK, 2, 3, 5), (0, 0, LOOK, 5, 6, 0))
        self.assertEqual(an_order((0, 5), calls), (1, 2, 0))

    def test_none_fits(self):
        self.assertIs(an_order((0,), ((0, 0, plus(1), 0, 1, 1), (1, 0, plus(1), 2, 3, 0))), None)
        self.assertIs(an_order((0,), ((0, 0, plus(1), 0, 9, 0), (1, 0, plus(1), 0, 9, 0))), None)
        # At the one box there is an order, at the other one none.
        self.assertIs(an_order((0, 0), ((0, 0, LOOK, 0, 9, 0), (1, 1, LOOK, 0, 9, 1))), None)

    def test_answers_that_are_met_by_turns(self):
        # The same values come again and again: what was taken tells how it goes on, not the value alone.
        up, down = plus(1), plus(-1)
        calls = tuple((at, 0, down if at < 4 else up, 0, 9, 1 if at < 4 else 0) for at in range(8))
        self.right((0,), calls, an_order((0,), calls))
        self.assertIs(an_order((0,), calls[:3] + (calls[0],) + calls[:4]), None)

    def test_all_orders_gone_through(self):
        chance = chance_for(263)
        found = {True: 0, False: 0}
        for turn in range(400):
            board, calls, order = calls_by_chance(
                chance, chance.choice((1, 1, 2, 3)), chance.randint(1, 6), chance.choice((5, 10, 30, 90)), turn % 3, FEW,
            )
            told = an_order(board, calls)
            there_is = any(plain_fits(board, calls, other) for other in itertools.permutations(range(len(calls))))
            found[there_is] += 1
            if there_is:
                self.right(board, calls, told)
            else:
                self.assertIs(told, None, (board, calls))
        self.assertGreater(min(found.values()), 60)

    def test_eight_at_one_box(self):
        chance = chance_for(264)
        found = {True: 0, False: 0}
        for turn in range(12):
            board, calls, order = calls_by_chance(chance, 1, 8, chance.choice((30, 90)), turn % 2, FEW)
            told = an_order(board, calls)
            there_is = any(plain_fits(board, calls, other) for other in itertools.permutations(range(8)))
            found[there_is] += 1
            if there_is:
                self.right(board, calls, told)
            else:
                self.assertIs(told, None)
        self.assertGreater(min(found.values()), 2)

    def test_forty_at_several(self):
        chance = chance_for(265)
        for turn in range(60):
            board, calls, order = calls_by_chance(
                chance, chance.choice((5, 6, 8, 16)), 40, chance.choice((0, 20, 90, 400)), 0, chance.choice((FEW, EVERY_DEED)),
            )
            self.right(board, calls, an_order(board, calls))

    def test_forty_all_at_once_told_soon(self):
        board, calls = full_row(5, 8, 0, 9)
        told = an_order(board, calls)
        self.right(board, calls, told)
        for box in range(5):
            own = numbers_at(calls, box)
            self.assertEqual([number for number in told if number in own], own[::-1])

    def test_forty_looks_at_once(self):
        calls = tuple((at % 16, at % 5, LOOK, 0, 9, 3) for at in range(40))
        self.right((3,) * 5, calls, an_order((3,) * 5, calls))

    def test_none_fits_told_soon(self):
        # Only the last box's last call is wrong, or each box's last one.
        looks = tuple((at % 16, at % 5, LOOK, 0, 9, 3) for at in range(40))
        self.assertIs(an_order((3,) * 5, looks[:-1] + ((0, 4, LOOK, 0, 9, 4),)), None)
        self.assertIs(an_order((3,) * 5, looks[:35] + tuple((0, box, LOOK, 0, 9, 4) for box in range(5))), None)
        board, calls = full_row(5, 8, 0, 9)
        self.assertIs(an_order(board, calls[:-1] + (with_part(calls[-1], 5, 8),)), None)
        # Values of all kinds may be left, and at the end none is the one that is answered.
        sets = tuple((at % 16, at % 5, (0, at % 3, at % 3), 0, 9, at // 5 % 3) for at in range(35))
        self.assertIs(an_order((0,) * 5, sets + tuple((0, box, LOOK, 0, 9, 7) for box in range(5))), None)

    def test_great_numbers(self):
        calls = (
            (0, 0, (BIG, None, None), BIG, BIG + 4, -BIG), (1, 0, (0, BIG, BIG), BIG + 5, 10 ** 30 - 1, 0),
            (2, 0, LOOK, 10 ** 30 - 1, 10 ** 30 - 1, BIG),
        )
        self.assertEqual(an_order((-BIG,), calls), (0, 1, 2))
        self.assertIs(fits((-BIG,), calls, (0, 1, 2)), True)
        late = (with_part(with_part(calls[0], 4, 2 * BIG), 3, BIG + 6),) + (with_part(calls[1], 4, BIG + 5),) + calls[2:]
        self.assertIs(an_order((-BIG,), late), None)

    def test_no_board(self):
        for board in NO_BOARDS:
            for calls in ((), (CALL,), None, [], (CALL,) * 9):
                with self.assertRaises(NoBoard):
                    an_order(board, calls)

    def test_no_calls_of_the_board(self):
        for calls in NO_CALLS:
            with self.assertRaises(NoCalls):
                an_order((1, 2), calls)

    def test_asked_again(self):
        chance = chance_for(266)
        for turn in range(20):
            board, calls, order = calls_by_chance(chance, 5, 40, 90, turn % 2)
            self.assertEqual(an_order(board, calls), an_order(board, calls))


if __name__ == "__main__":
    unittest.main()
