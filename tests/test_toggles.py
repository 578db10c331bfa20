"""Toggles: promise 30."""

import unittest

from joinedasks.errors import NoNet
from joinedasks.toggles import counted, toggles
from samples import NO_NETS

TWO_DEEP = ((0, 1), (2, 3), (0, 3), (1, 2), (0, 1), (3, 2))
# What is told by the words, line by line.
TOGGLES = [
    (),
    ((0, 1),),
    TWO_DEEP,
    # The first half is counted, then the second one.
    TWO_DEEP + ((4, 5), (6, 7), (4, 7), (5, 6), (4, 5), (7, 6))
    # (0, 1, 3, 2) and (4, 5, 7, 6) are merged: first (0, 3) with (5, 6), to (0, 3, 6, 5).
    + ((0, 6), (3, 5), (0, 3), (6, 5))
    # Then (1, 2) with (4, 7), to (1, 2, 7, 4).
    + ((1, 7), (2, 4), (1, 2), (7, 4))
    + ((0, 1), (3, 2), (6, 7), (5, 4)),
]
COUNTED = [(0,), (0, 1), (0, 1, 3, 2), (0, 1, 3, 2, 6, 7, 5, 4)]


class Toggles(unittest.TestCase):
    def test_every_depth(self):
        for k in range(4):
            self.assertEqual(toggles(k), TOGGLES[k])

    def test_how_many(self):
        self.assertEqual([len(toggles(k)) for k in range(4)], [0, 1, 6, 24])

    def test_rows_of_tuples(self):
        for k in range(4):
            self.assertIsInstance(toggles(k), tuple)
            for toggle in toggles(k):
                self.assertIsInstance(toggle, tuple)
                self.assertEqual(len(set(toggle) & set(range(2 ** k))), 2)

    def test_no_net(self):
        for k in NO_NETS + [4]:
            with self.assertRaises(NoNet):
                toggles(k)

    def test_asked_again(self):
        for k in range(4):
            self.assertEqual(toggles(k), toggles(k))


class Counted(unittest.TestCase):
    def test_every_depth(self):
        for k in range(4):
            self.assertEqual(counted(k), COUNTED[k])
            self.assertIsInstance(counted(k), tuple)

    def test_no_net(self):
        for k in NO_NETS + [4]:
            with self.assertRaises(NoNet):
                counted(k)

    def test_asked_again(self):
        for k in range(4):
            self.assertEqual(counted(k), counted(k))


if __name__ == "__main__":
    unittest.main()
