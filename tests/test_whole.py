"""Numbers in figures."""

import unittest

from joinedasks.whole import is_whole, is_within, read_whole, written
from samples import BIG, NO_NUMBERS


class Whole(unittest.TestCase):
    def test_whole_numbers(self):
        for number in (0, 1, -1, BIG, -BIG, 10 ** 5000):
            self.assertIs(is_whole(number), True)
        for thing in NO_NUMBERS:
            self.assertIs(is_whole(thing), False, thing)
            self.assertIs(is_within(thing, -BIG, BIG), False, thing)

    def test_within(self):
        found = [number for number in range(-9, 9) if is_within(number, -2, 3)]
        self.assertEqual(found, [-2, -1, 0, 1, 2, 3])


class Figures(unittest.TestCase):
    def test_there_and_back(self):
        near = [10 ** power + step for power in (0, 1, 29, 63, 64, 65, 128) for step in (-1, 0, 1)]
        for number in near + [-number for number in near]:
            self.assertEqual(written(number), str(number))
            self.assertEqual(read_whole(str(number)), number)

    def test_more_figures_than_python_writes_at_once(self):
        for power in (4299, 4300, 4301, 9000):
            for number, text in (
                (10 ** power, "1" + "0" * power),
                (-(10 ** power), "-1" + "0" * power),
                (10 ** power - 1, "9" * power),
                (7 - 10 ** power, "-" + "9" * (power - 1) + "3"),
            ):
                self.assertTrue(written(number) == text, power)
                self.assertTrue(read_whole(text) == number, power)

    def test_what_is_not_read(self):
        for word in ("", "-", "--1", "+1", "-0", "00", "01", "-01", "1-", " 1", "1 ", "1_0", "1.", "x", "\u00b2", "\u0661"):
            self.assertIsNone(read_whole(word), word)


if __name__ == "__main__":
    unittest.main()
