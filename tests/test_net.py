"""The net: promises 12 and 13."""

import unittest

from joinedasks.errors import NoHand, NoNet, NoSide
from joinedasks.net import first_shared, meeting, parting, switches, way
from samples import BIG, NO_NETS, NO_NUMBERS, figures_of, plain_way

DEPTHS = range(5)


def no_lines(k):
    """What is no hand, and no side, of a net so deep."""
    return NO_NUMBERS + [-1, 2 ** k, 2 ** k + 1, 16, BIG, -BIG]


def pairs_of(k):
    """All hands with all sides."""
    return [(hand, side) for hand in range(2 ** k) for side in range(2 ** k)]


def unlike(k):
    """All tuples of two unlike hands, or sides."""
    return [(one, other) for one, other in pairs_of(k) if one != other]


class Way(unittest.TestCase):
    def test_as_written(self):
        self.assertEqual(way(0, 0, 0), (0,))
        self.assertEqual(way(1, 0, 1), (0, 1))
        self.assertEqual(way(1, 1, 1), (1, 1))
        self.assertEqual(way(3, 0b101, 0b010), (0b101, 0b001, 0b011, 0b010))
        self.assertEqual(way(4, 0b0110, 0b1001), (0b0110, 0b1110, 0b1010, 0b1000, 0b1001))

    def test_all_by_figures(self):
        for k in DEPTHS:
            for hand, side in pairs_of(k):
                self.assertEqual(way(k, hand, side), plain_way(k, hand, side), (k, hand, side))

    def test_from_the_hand_to_the_side(self):
        for k in DEPTHS:
            for hand, side in pairs_of(k):
                lines = way(k, hand, side)
                self.assertEqual((lines[0], lines[-1], len(lines)), (hand, side, k + 1))


class Switches(unittest.TestCase):
    def test_as_written(self):
        self.assertEqual(switches(0, 0, 0), ())
        self.assertEqual(switches(1, 0, 1), ((1, 0),))
        self.assertEqual(switches(3, 0b101, 0b010), ((1, 0b01), (2, 0b01), (3, 0b01)))
        self.assertEqual(switches(4, 0b0110, 0b1001), ((1, 0b110), (2, 0b110), (3, 0b100), (4, 0b100)))

    def test_all_by_figures(self):
        for k in DEPTHS:
            for hand, side in pairs_of(k):
                lines = way(k, hand, side)
                told = switches(k, hand, side)
                self.assertEqual([stage for stage, number in told], list(range(1, k + 1)))
                for stage, number in told:
                    for line in (lines[stage - 1], lines[stage]):
                        figures = figures_of(k, line)
                        self.assertEqual(figures[:stage - 1] + figures[stage:], figures_of(k - 1, number))


class Refusals(unittest.TestCase):
    def test_no_net(self):
        for k in NO_NETS:
            for one, other in ((0, 0), (0, 1), (None, 0), (0, "0"), (None, None)):
                for ask in (way, switches, meeting, parting):
                    with self.assertRaises(NoNet):
                        ask(k, one, other)

    def test_no_hand(self):
        for ask in (way, switches):
            for k in DEPTHS:
                for hand in no_lines(k):
                    for side in (0, -1, 16, None, [0]):
                        with self.assertRaises(NoHand):
                            ask(k, hand, side)

    def test_no_side(self):
        for ask in (way, switches):
            for k in DEPTHS:
                for side in no_lines(k):
                    with self.assertRaises(NoSide):
                        ask(k, 2 ** k - 1, side)


class Meeting(unittest.TestCase):
    def test_as_written(self):
        self.assertEqual(meeting(1, 0, 1), 1)
        self.assertEqual(meeting(3, 0b000, 0b001), 3)
        self.assertEqual(meeting(3, 0b000, 0b100), 1)
        self.assertEqual(meeting(3, 0b101, 0b011), 2)

    def test_all(self):
        for k in DEPTHS:
            for one, other in unlike(k):
                stage = meeting(k, one, other)
                self.assertIn(stage, range(1, k + 1))
                for side in range(2 ** k):
                    first, second = way(k, one, side), way(k, other, side)
                    self.assertEqual(first[stage:], second[stage:])
                    for level in range(stage):
                        self.assertNotEqual(first[level], second[level])
                    self.assertEqual(switches(k, one, side)[stage - 1], switches(k, other, side)[stage - 1])

    def test_refusals(self):
        for k in DEPTHS:
            for hand in range(2 ** k):
                with self.assertRaises(NoHand):
                    meeting(k, hand, hand)
            for thing in no_lines(k):
                for one, other in ((thing, 0), (0, thing), (thing, thing)):
                    with self.assertRaises(NoHand):
                        meeting(k, one, other)


class Parting(unittest.TestCase):
    def test_as_written(self):
        self.assertEqual(parting(1, 0, 1), 1)
        self.assertEqual(parting(3, 0b000, 0b001), 3)
        self.assertEqual(parting(3, 0b000, 0b100), 1)
        self.assertEqual(parting(3, 0b101, 0b011), 1)
        self.assertEqual(parting(3, 0b101, 0b110), 2)

    def test_all(self):
        for k in DEPTHS:
            for one, other in unlike(k):
                stage = parting(k, one, other)
                self.assertIn(stage, range(1, k + 1))
                for hand in range(2 ** k):
                    first, second = way(k, hand, one), way(k, hand, other)
                    self.assertEqual(first[:stage], second[:stage])
                    for level in range(stage, k + 1):
                        self.assertNotEqual(first[level], second[level])

    def test_refusals(self):
        for k in DEPTHS:
            for side in range(2 ** k):
                with self.assertRaises(NoSide):
                    parting(k, side, side)
            for thing in no_lines(k):
                for one, other in ((thing, 0), (0, thing), (thing, thing)):
                    with self.assertRaises(NoSide):
                        parting(k, one, other)


def plainly_shared(k, pairs):
    """The first line that two share, by all of them."""
    found = [
        (level, line)
        for at, one in enumerate(pairs)
        for other in pairs[:at]
        for level, line in enumerate(plain_way(k, *one))
        if plain_way(k, *other)[level] == line
    ]
    return min(found, default=None)


NO_PAIRS = [thing for thing in NO_NUMBERS if thing != ()] + [
    0, (0, 0), [(0, 0)], ([0, 0],), ((0, 0), [1, 1]), ((0,),), ((0, 0, 0),), ((),), ("00",), ({0: 0},), (((0, 0),),),
    ((0, 0), 0), (0, (0, 0)), (None,), ((0, 0), None), ((0, 0),) * 41, ((0, 0),) * 60,
]


class FirstShared(unittest.TestCase):
    def test_none_share(self):
        for k in DEPTHS:
            self.assertIs(first_shared(k, ()), None)
            for hand, side in pairs_of(k):
                self.assertIs(first_shared(k, ((hand, side),)), None)
            self.assertIs(first_shared(k, tuple((hand, hand) for hand in range(2 ** k))), None)

    def test_one_and_the_same_twice(self):
        for k in DEPTHS:
            for hand, side in pairs_of(k):
                self.assertEqual(first_shared(k, ((hand, side), (hand, side))), (0, hand))

    def test_all_of_two(self):
        for k in range(4):
            for one in pairs_of(k):
                for other in pairs_of(k):
                    self.assertEqual(first_shared(k, (one, other)), plainly_shared(k, (one, other)))

    def test_all_of_three(self):
        rows = [(one, two, three) for one in pairs_of(2) for two in pairs_of(2) for three in pairs_of(2)]
        for pairs in rows:
            self.assertEqual(first_shared(2, pairs), plainly_shared(2, pairs))

    def test_least_level_then_least_line(self):
        self.assertEqual(first_shared(3, ((1, 0), (0, 0), (3, 3), (2, 3))), (3, 0))
        self.assertEqual(first_shared(3, ((3, 3), (2, 3), (1, 0), (0, 0))), (3, 0))
        self.assertEqual(first_shared(3, ((1, 0), (0, 0), (7, 3), (3, 3))), (1, 3))
        self.assertEqual(first_shared(3, ((7, 3), (3, 3), (4, 0), (0, 0))), (1, 0))
        self.assertEqual(first_shared(3, ((7, 3), (7, 0), (4, 0), (0, 0))), (0, 7))

    def test_up_to_forty(self):
        for k in DEPTHS:
            for many in range(41):
                for turn in range(6):
                    pairs = tuple(
                        ((at * (2 * turn + 1) + turn) % 2 ** k, (at * at * turn + at // 2) % 2 ** k) for at in range(many)
                    )
                    self.assertEqual(first_shared(k, pairs), plainly_shared(k, pairs), (k, pairs))

    def test_unlike_hands(self):
        for turn in range(300):
            pairs = tuple((hand * 5 % 16, (hand * 7 + turn * hand * hand + turn // 5) % 16) for hand in range(turn % 17))
            self.assertEqual(first_shared(4, pairs), plainly_shared(4, pairs), pairs)

    def test_no_net(self):
        for k in NO_NETS:
            for pairs in ((), ((0, 0),), None, [(0, 0)], ((None, None),)):
                with self.assertRaises(NoNet):
                    first_shared(k, pairs)

    def test_no_row_of_tuples_of_two(self):
        for thing in NO_PAIRS:
            with self.assertRaises(NoHand):
                first_shared(2, thing)

    def test_no_hand(self):
        for k in DEPTHS:
            for hand in no_lines(k):
                for pairs in (((hand, 0),), ((0, 0), (hand, 0)), ((0, None), (hand, 0)), ((hand, 16), (0, 0))):
                    with self.assertRaises(NoHand):
                        first_shared(k, pairs)

    def test_no_tuple_of_two_behind_no_side(self):
        for pairs in (((0, -1), [0, 0]), ((0, None), 5), ((0, "0"), (0,))):
            with self.assertRaises(NoHand):
                first_shared(2, pairs)

    def test_no_side(self):
        for k in DEPTHS:
            for side in no_lines(k):
                for pairs in (((0, side),), ((0, 0), (0, side)), ((0, side), (0, 0))):
                    with self.assertRaises(NoSide):
                        first_shared(k, pairs)


if __name__ == "__main__":
    unittest.main()
