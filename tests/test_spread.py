"""Spread boxes: promise 29."""

import unittest

from joinedasks.errors import NoNet, NoNumber, NoSide
from joinedasks.spread import address_at, lying, place_of, side_of
from samples import BIG, NO_NETS, NO_NUMBERS

DEPTHS = range(5)
GREAT = [10 ** 29, 10 ** 30 - 1, BIG, 2 ** 99 - 1, 2 ** 98, 2 ** 64 - 1, 0x123456789ABCDEF, 987654321987654321987654321]
ADDRESSES = list(range(600)) + GREAT
BELOW_NOUGHT = [-1, -2, -BIG]


def plain_side(k, address):
    """The side by the words: pieces of k binary figures, figure by figure."""
    if k == 0:
        return 0
    figures = bin(address)[2:]
    figures = "0" * (-len(figures) % k) + figures
    side = 0
    for at in range(0, len(figures), k):
        side ^= int(figures[at:at + k], 2)
    return side


class Addresses(unittest.TestCase):
    def test_as_written(self):
        # 0b11_01_10 and 0b1_101_110.
        self.assertEqual((place_of(2, 54), side_of(2, 54)), (13, 0b11 ^ 0b01 ^ 0b10))
        self.assertEqual((place_of(3, 110), side_of(3, 110)), (13, 0b001 ^ 0b101 ^ 0b110))
        self.assertEqual((place_of(4, 0xABC), side_of(4, 0xABC)), (0xAB, 0xA ^ 0xB ^ 0xC))
        self.assertEqual((place_of(1, 7), side_of(1, 7)), (3, 1))
        self.assertEqual((place_of(0, 7), side_of(0, 7)), (7, 0))
        self.assertEqual(address_at(2, 0, 13), 54)
        self.assertEqual(address_at(0, 0, 7), 7)

    def test_nought(self):
        for k in DEPTHS:
            self.assertEqual((place_of(k, 0), side_of(k, 0), address_at(k, 0, 0)), (0, 0, 0))

    def test_places_and_sides(self):
        for k in DEPTHS:
            for address in ADDRESSES:
                self.assertEqual(place_of(k, address), address // 2 ** k)
                self.assertEqual(side_of(k, address), plain_side(k, address), (k, address))

    def test_there_and_back(self):
        for k in DEPTHS:
            for address in ADDRESSES:
                self.assertEqual(address_at(k, side_of(k, address), place_of(k, address)), address)
            for place in ADDRESSES:
                for side in range(2 ** k):
                    address = address_at(k, side, place)
                    self.assertEqual((place_of(k, address), side_of(k, address)), (place, side))

    def test_neighbours_of_one_block(self):
        for k in DEPTHS:
            for block in list(range(40)) + GREAT:
                addresses = [block * 2 ** k + at for at in range(2 ** k)]
                self.assertEqual({place_of(k, address) for address in addresses}, {block})
                self.assertEqual({side_of(k, address) for address in addresses}, set(range(2 ** k)))

    def test_of_told_addresses(self):
        for k in range(1, 5):
            address = BIG
            for turn in range(300):
                address = address_at(k, turn % 2 ** k, address)
                self.assertEqual(side_of(k, address), turn % 2 ** k)
            for turn in range(300):
                address = place_of(k, address)
            self.assertEqual(address, BIG)


class Lying(unittest.TestCase):
    def plain(self, k, begin, step, many):
        sides = [plain_side(k, begin + at * step) for at in range(many)]
        return tuple(sides.count(side) for side in range(2 ** k))

    def test_as_written(self):
        self.assertEqual(lying(2, 0, 1, 4), (1, 1, 1, 1))
        # 0b0000, 0b0101, 0b1010.
        self.assertEqual(lying(2, 0, 5, 3), (3, 0, 0, 0))
        self.assertEqual(lying(0, 3, 7, 9), (9,))
        self.assertEqual(lying(1, 1, 1, 2), (0, 2))

    def test_by_the_words(self):
        for k in DEPTHS:
            for begin in (0, 1, 7, 255, BIG):
                for step in (0, 1, 2, 3, 5, 16, 17, 1000, BIG):
                    for many in (0, 1, 2, 16, 33, 199, 200):
                        told = lying(k, begin, step, many)
                        self.assertIsInstance(told, tuple)
                        self.assertEqual(told, self.plain(k, begin, step, many), (k, begin, step, many))

    def test_no_addresses_and_one(self):
        for k in DEPTHS:
            self.assertEqual(lying(k, 77, 3, 0), (0,) * 2 ** k)
            side = side_of(k, 77)
            self.assertEqual(lying(k, 77, 3, 1), (0,) * side + (1,) + (0,) * (2 ** k - 1 - side))

    def test_no_step(self):
        for k in DEPTHS:
            side = side_of(k, 1234567)
            for many in (1, 5, 200):
                self.assertEqual(lying(k, 1234567, 0, many), (0,) * side + (many,) + (0,) * (2 ** k - 1 - side))

    def test_steps_that_are_powers_of_two(self):
        for k in DEPTHS:
            for power in list(range(12)) + [30, 60, 90]:
                step = 2 ** power
                for times in (0, 1, 2, 3, 10, 255, 1000):
                    self.assertEqual(lying(k, times * 2 ** k * step, step, 2 ** k), (1,) * 2 ** k, (k, power, times))


class Refusals(unittest.TestCase):
    def test_no_net(self):
        for k in NO_NETS:
            for address in (0, 5, -1, None, True):
                with self.assertRaises(NoNet):
                    place_of(k, address)
                with self.assertRaises(NoNet):
                    side_of(k, address)
                for side in (0, -1, None):
                    with self.assertRaises(NoNet):
                        address_at(k, side, address)
                for many in (0, 201, None):
                    with self.assertRaises(NoNet):
                        lying(k, address, 1, many)
                    with self.assertRaises(NoNet):
                        lying(k, 1, address, many)

    def test_no_number(self):
        for k in DEPTHS:
            for thing in NO_NUMBERS + BELOW_NOUGHT:
                with self.assertRaises(NoNumber):
                    place_of(k, thing)
                with self.assertRaises(NoNumber):
                    side_of(k, thing)
                for side in (0, -1, 2 ** k, None, True):
                    with self.assertRaises(NoNumber):
                        address_at(k, side, thing)
                for other in (0, 1, -1, None):
                    with self.assertRaises(NoNumber):
                        lying(k, thing, other, 1)
                    with self.assertRaises(NoNumber):
                        lying(k, other, thing, 1)
                with self.assertRaises(NoNumber):
                    lying(k, 0, 1, thing)

    def test_one_address_too_many(self):
        for k in DEPTHS:
            self.assertEqual(sum(lying(k, 0, 1, 200)), 200)
            for many in (201, 202, BIG):
                with self.assertRaises(NoNumber):
                    lying(k, 0, 1, many)

    def test_no_side(self):
        for k in DEPTHS:
            for side in NO_NUMBERS + [-1, 2 ** k, 16, BIG, -BIG]:
                for place in (0, 3, BIG):
                    with self.assertRaises(NoSide):
                        address_at(k, side, place)

    def test_asked_again(self):
        for k in DEPTHS:
            self.assertEqual(lying(k, 3, 5, 200), lying(k, 3, 5, 200))
            self.assertEqual(address_at(k, 0, BIG), address_at(k, 0, BIG))


if __name__ == "__main__":
    unittest.main()
