"""Deeds: promises 5, 6 (its first two sentences), 7, and 2 and 4 as far as they speak of deeds."""

import unittest

from joinedasks.deeds import again, apart, done, is_deed, then
from joinedasks.errors import NoDeed, NoNumber
from samples import BIG, BIG_DEEDS, DEEDS, FEW_DEEDS, NO_DEEDS, NO_NUMBERS, VALUES, plainly

LOOK = (0, None, None)


class IsDeed(unittest.TestCase):
    def test_right_deeds_of_every_form(self):
        right = [
            LOOK, (5, None, None), (-5, None, None), (0, 3, None), (2, -3, None), (0, None, 3),
            (-2, None, -3), (0, 3, 4), (7, -1, 0), (-7, -1, 0), (0, 3, 3), (0, 0, 0), (0, -4, -4),
        ]
        for deed in right + DEEDS + BIG_DEEDS:
            self.assertIs(is_deed(deed), True, deed)

    def test_of_anything_else(self):
        for thing in NO_DEEDS:
            self.assertIs(is_deed(thing), False, thing)


class Done(unittest.TestCase):
    def test_the_document_names_these(self):
        for value in (-BIG, -3, 0, 4, 9, BIG):
            self.assertEqual(done((6, None, None), value), value + 6)
            self.assertEqual(done((0, 6, 6), value), 6)
            self.assertEqual(done((0, 6, None), value), max(value, 6))
            self.assertEqual(done((0, None, 6), value), min(value, 6))
            self.assertEqual(done(LOOK, value), value)

    def test_below_at_between_and_above_the_ends(self):
        made = [done((2, -3, 4), value) for value in (-9, -6, -5, -4, 1, 2, 3, 9)]
        self.assertEqual(made, [-3, -3, -3, -2, 3, 4, 4, 4])
        made = [done((-2, -3, None), value) for value in (-9, -2, -1, 0, 9)]
        self.assertEqual(made, [-3, -3, -3, -2, 7])
        made = [done((-2, None, 4), value) for value in (-9, 5, 6, 7, 9)]
        self.assertEqual(made, [-11, 3, 4, 4, 4])

    def test_every_form_at_many_values(self):
        for deed in DEEDS:
            for value in VALUES:
                self.assertEqual(done(deed, value), plainly(deed, value), (deed, value))

    def test_thirty_figures(self):
        for deed in BIG_DEEDS:
            for value in (-3 * BIG, -2 * BIG, -BIG, -1, 0, 1, BIG, 2 * BIG, 3 * BIG):
                self.assertEqual(done(deed, value), plainly(deed, value), (deed, value))

    def test_refusals(self):
        for thing in NO_NUMBERS:
            with self.assertRaises(NoNumber):
                done(LOOK, thing)
        for thing in NO_DEEDS:
            with self.assertRaises(NoDeed):
                done(thing, 0)
            with self.assertRaises(NoNumber):
                done(thing, "0")


class Then(unittest.TestCase):
    def check(self, one, other, values):
        together = then(one, other)
        self.assertTrue(is_deed(together), (one, other))
        for value in values:
            apiece = plainly(other, plainly(one, value))
            self.assertEqual(plainly(together, value), apiece, (one, other, value))

    def test_every_form_on_either_hand(self):
        for one in DEEDS:
            for other in DEEDS:
                self.check(one, other, VALUES)

    def test_thirty_figures(self):
        near = [many * BIG + step for many in range(-4, 5) for step in (-8, -7, -1, 0, 1, 3, 4)]
        for one in BIG_DEEDS + FEW_DEEDS:
            for other in BIG_DEEDS:
                self.check(one, other, near)
                self.check(other, one, near)

    def test_both_groupings_of_three_are_one_and_the_same_tuple(self):
        for one in FEW_DEEDS:
            for other in FEW_DEEDS:
                for third in FEW_DEEDS:
                    left = then(then(one, other), third)
                    self.assertEqual(left, then(one, then(other, third)), (one, other, third))

    def test_with_the_deed_that_looks_a_deed_is_itself(self):
        for deed in DEEDS + BIG_DEEDS:
            self.assertEqual(then(LOOK, deed), deed)
            self.assertEqual(then(deed, LOOK), deed)

    def test_told_as_tuples(self):
        self.assertEqual(then((1, None, 5), (2, 9, None)), (0, 9, 9))
        self.assertEqual(then((1, None, 5), (2, 6, None)), (3, 6, 7))
        self.assertEqual(then((3, 0, 4), (-1, 1, None)), (2, 1, 3))
        self.assertEqual(then((3, 8, None), (-1, None, 2)), (0, 2, 2))
        self.assertEqual(then((0, 3, 3), (4, None, None)), (0, 7, 7))
        self.assertEqual(then((1, None, None), (-1, None, None)), LOOK)

    def test_what_was_told_may_be_handed_in_again(self):
        deed = (BIG, None, 4 * BIG)
        for turn in range(12):
            deed = then(deed, deed)
        self.assertEqual(deed, (BIG * 4096, None, 4 * BIG))

    def test_refusals(self):
        for thing in NO_DEEDS:
            for one, other in ((thing, LOOK), (LOOK, thing), (thing, thing)):
                with self.assertRaises(NoDeed):
                    then(one, other)


class Apart(unittest.TestCase):
    def check(self, one, other):
        value = apart(one, other)
        if one == other:
            self.assertIsNone(value)
            return
        self.assertIs(type(value), int, (one, other))
        self.assertNotEqual(plainly(one, value), plainly(other, value), (one, other, value))

    def test_every_two(self):
        for one in DEEDS + BIG_DEEDS:
            for other in DEEDS + BIG_DEEDS:
                self.check(one, other)

    def test_by_one_in_one_part(self):
        for deed in DEEDS + BIG_DEEDS:
            for place in range(3):
                for step in (-1, 1):
                    if deed[place] is None:
                        continue
                    near = deed[:place] + (deed[place] + step,) + deed[place + 1:]
                    if is_deed(near):
                        self.check(deed, near)
                        self.check(near, deed)

    def test_by_an_end_more(self):
        for far in (-BIG, -40, 40, BIG):
            for one in ((3, None, None), (3, far, None), (3, None, far)):
                for other in ((3, None, None), (3, far, None), (3, None, far), (0, far, far)):
                    self.check(one, other)

    def test_asked_again_it_is_told_alike(self):
        for one in FEW_DEEDS:
            for other in FEW_DEEDS:
                self.assertEqual(apart(one, other), apart(one, other))

    def test_refusals(self):
        for thing in NO_DEEDS:
            for one, other in ((thing, LOOK), (LOOK, thing), (thing, thing)):
                with self.assertRaises(NoDeed):
                    apart(one, other)


def by_doubling(deed, many):
    """The deed done so many times, by nothing but then."""
    result = LOOK
    while many:
        if many & 1:
            result = then(result, deed)
        deed = then(deed, deed)
        many >>= 1
    return result


class Again(unittest.TestCase):
    def test_no_times_it_looks(self):
        for deed in DEEDS + BIG_DEEDS:
            self.assertEqual(again(deed, 0), LOOK)

    def test_few_times(self):
        for deed in DEEDS + BIG_DEEDS:
            together = LOOK
            for many in range(8):
                self.assertEqual(again(deed, many), together, (deed, many))
                together = then(together, deed)

    def test_thirty_figures_of_times(self):
        for deed in DEEDS + BIG_DEEDS:
            for many in (BIG, BIG + 1, 10 ** 30 - 1):
                self.assertEqual(again(deed, many), by_doubling(deed, many), (deed, many))

    def test_until_the_ends_meet(self):
        self.assertEqual(again((2, 0, 7), 3), (6, 4, 7))
        self.assertEqual(again((2, 0, 7), 4), (8, 6, 7))
        self.assertEqual(again((2, 0, 7), 5), (0, 7, 7))
        self.assertEqual(again((-2, 0, 7), 4), (-8, 0, 1))
        self.assertEqual(again((-2, 0, 7), 5), (0, 0, 0))
        self.assertEqual(again((2, 1, None), 4), (8, 7, None))
        self.assertEqual(again((-2, 1, None), 4), (-8, 1, None))
        self.assertEqual(again((2, None, 1), 4), (8, None, 1))
        self.assertEqual(again((-2, None, 1), 4), (-8, None, -5))

    def test_what_was_told_may_be_handed_in_again(self):
        deed = (BIG, BIG, None)
        for turn in range(8):
            deed = again(deed, deed[0])
        self.assertEqual(deed[0], BIG ** 256)
        self.assertEqual(done(deed, deed[0]), 2 * BIG ** 256)
        more = then(deed, (1, None, None))
        value = apart(deed, more)
        self.assertEqual(done(more, value) - done(deed, value), 1)

    def test_refusals(self):
        for thing in NO_NUMBERS + [-1, -BIG]:
            with self.assertRaises(NoNumber):
                again(LOOK, thing)
        for thing in NO_DEEDS:
            for many in (0, 1, BIG):
                with self.assertRaises(NoDeed):
                    again(thing, many)
            for many in (-1, None, True):
                with self.assertRaises(NoNumber):
                    again(thing, many)


if __name__ == "__main__":
    unittest.main()
