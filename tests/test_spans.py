"""Spans: promise 6, its last sentence."""

import unittest

from joinedasks.errors import NoDeed, NoNumber
from joinedasks.spans import leads, stays
from samples import BIG, BIG_DEEDS, DEEDS, NO_DEEDS, NO_NUMBERS, VALUES, plainly

FAR = range(-30, 31)


def is_in(span, value):
    if span is None:
        return False
    least, greatest = span
    return (least is None or least <= value) and (greatest is None or value <= greatest)


class Stays(unittest.TestCase):
    def test_each_form(self):
        self.assertEqual(stays((0, None, None)), (None, None))
        self.assertEqual(stays((0, -2, None)), (-2, None))
        self.assertEqual(stays((0, None, 5)), (None, 5))
        self.assertEqual(stays((0, -2, 5)), (-2, 5))
        self.assertEqual(stays((0, 4, 4)), (4, 4))
        self.assertIsNone(stays((3, None, None)))
        self.assertIsNone(stays((-3, None, None)))
        self.assertIsNone(stays((3, 0, None)))
        self.assertIsNone(stays((-3, None, 0)))
        self.assertEqual(stays((3, None, 0)), (0, 0))
        self.assertEqual(stays((-3, 0, None)), (0, 0))
        self.assertEqual(stays((3, -2, 5)), (5, 5))
        self.assertEqual(stays((-3, -2, 5)), (-2, -2))

    def test_just_those_that_stay(self):
        for deed in DEEDS:
            span = stays(deed)
            for value in FAR:
                self.assertEqual(is_in(span, value), plainly(deed, value) == value, (deed, value))

    def test_thirty_figures(self):
        self.assertEqual(stays((BIG, -BIG, BIG)), (BIG, BIG))
        self.assertEqual(stays((0, -BIG, BIG)), (-BIG, BIG))

    def test_refusals(self):
        for thing in NO_DEEDS:
            with self.assertRaises(NoDeed):
                stays(thing)


class Leads(unittest.TestCase):
    def test_each_form(self):
        self.assertEqual(leads((3, None, None), 5), (2, 2))
        self.assertEqual(leads((3, -2, None), -2), (None, -5))
        self.assertEqual(leads((3, -2, None), -1), (-4, -4))
        self.assertIsNone(leads((3, -2, None), -3))
        self.assertEqual(leads((-3, None, 5), 5), (8, None))
        self.assertEqual(leads((-3, None, 5), 4), (7, 7))
        self.assertIsNone(leads((-3, None, 5), 6))
        self.assertEqual(leads((3, -2, 5), -2), (None, -5))
        self.assertEqual(leads((3, -2, 5), 5), (2, None))
        self.assertEqual(leads((0, 4, 4), 4), (None, None))
        self.assertIsNone(leads((0, 4, 4), 3))
        self.assertIsNone(leads((0, 4, 4), 5))

    def test_just_those_that_lead_there(self):
        for deed in DEEDS:
            for value in VALUES:
                span = leads(deed, value)
                for start in FAR:
                    self.assertEqual(is_in(span, start), plainly(deed, start) == value, (deed, value, start))

    def test_an_end_is_told_just_where_there_is_one(self):
        for deed in DEEDS + BIG_DEEDS:
            for value in (-BIG, -2, 0, 1, 3, BIG):
                span = leads(deed, value)
                if span is not None:
                    self.assertEqual(span[0] is None, plainly(deed, -9 * BIG) == value, (deed, value))
                    self.assertEqual(span[1] is None, plainly(deed, 9 * BIG) == value, (deed, value))

    def test_refusals(self):
        for thing in NO_NUMBERS:
            with self.assertRaises(NoNumber):
                leads((0, None, None), thing)
        for thing in NO_DEEDS:
            with self.assertRaises(NoDeed):
                leads(thing, 0)
            with self.assertRaises(NoNumber):
                leads(thing, True)


if __name__ == "__main__":
    unittest.main()
