"""Families of deeds by table: promises 23 and 24."""

import itertools
import unittest

from joinedasks.errors import NoTable, TooMany
from joinedasks.families import family, words
from tablesamples import EVEN, FEW, MERGE, NO_GIVEN, OF_MORE, OF_SIXTY, SWAP, TURN, one_then, some_given


def by_all_rows(deeds):
    """The family with its words, by going through all rows of the deeds' numbers; None where there are too many."""
    found = {}
    for many in itertools.count():
        known = len(found)
        for word in itertools.product(range(len(deeds)), repeat=many):
            deed = tuple(range(len(deeds[0])))
            for number in word:
                deed = one_then(deed, deeds[number])
            found.setdefault(deed, word)
        if len(found) == known:
            return found
        if len(found) > 60:
            return None


def small_given():
    """Those whose words can be gone through."""
    return [deeds for deeds in some_given() if len(deeds) < 3 or len(deeds[0]) < 4]


class Family(unittest.TestCase):
    def test_as_written(self):
        self.assertEqual(family(((0,),)), ((0,),))
        self.assertEqual(words(((0,),)), ((),))
        self.assertEqual(family(((1, 0),)), ((0, 1), (1, 0)))
        self.assertEqual(words(((1, 0),)), ((), (0,)))
        self.assertEqual(family(((0, 0), (1, 0))), ((0, 1), (0, 0), (1, 0), (1, 1)))
        self.assertEqual(words(((0, 0), (1, 0))), ((), (0,), (1,), (0, 1)))
        self.assertEqual(family((SWAP, TURN)), ((0, 1, 2), SWAP, TURN, (2, 1, 0), (0, 2, 1), (2, 0, 1)))
        self.assertEqual(words((SWAP, TURN)), ((), (0,), (1,), (0, 1), (1, 0), (1, 1)))

    def test_one_deed_four_deeds_alike_ones(self):
        self.assertEqual(family(((1, 2, 3, 4, 4),)), tuple(tuple(min(v + at, 4) for v in range(5)) for at in range(5)))
        self.assertEqual(words(((1, 2, 3, 4, 4),)), tuple((0,) * many for many in range(5)))
        self.assertEqual(words((MERGE, MERGE, MERGE, MERGE)), ((), (0,)))
        self.assertEqual(words((TURN, SWAP, TURN, SWAP)), words((TURN, SWAP)))
        self.assertEqual(family(((0, 1), (0, 1), (1, 0), (1, 1))), ((0, 1), (1, 0), (1, 1), (0, 0)))
        self.assertEqual(words(((0, 1), (0, 1), (1, 0), (1, 1))), ((), (2,), (3,), (3, 2)))

    def test_all_of_two_and_three_states(self):
        for states in (1, 2):
            every = list(itertools.product(range(states), repeat=states))
            for many in range(1, 5):
                for deeds in itertools.product(every, repeat=many):
                    self.check(deeds)
        every = list(itertools.product(range(3), repeat=3))
        for deeds in itertools.product(every[::2], repeat=2):
            self.check(deeds)

    def check(self, deeds):
        found = by_all_rows(deeds)
        if found is None:
            for ask in (family, words):
                with self.assertRaises(TooMany):
                    ask(deeds)
        else:
            self.assertEqual(family(deeds), tuple(found), deeds)
            self.assertEqual(words(deeds), tuple(found.values()), deeds)

    def test_by_all_rows(self):
        for deeds in small_given():
            self.check(deeds)

    def test_told_order(self):
        for deeds in FEW + OF_SIXTY:
            told, rows = family(deeds), words(deeds)
            self.assertEqual((len(set(told)), len(set(rows))), (len(told), len(told)))
            self.assertEqual(list(rows), sorted(rows, key=lambda word: (len(word), word)))
            self.assertEqual((told[0], rows[0]), (tuple(range(len(deeds[0]))), ()))
            for deed, word in zip(told, rows):
                made = told[0]
                for number in word:
                    made = one_then(made, deeds[number])
                self.assertEqual(made, deed)
            for deed in told:
                for given in deeds:
                    self.assertIn(one_then(deed, given), told)

    def test_sixty_and_more(self):
        for deeds in OF_SIXTY:
            self.assertEqual((len(family(deeds)), len(words(deeds))), (60, 60))
        for deeds in OF_MORE:
            for ask in (family, words):
                with self.assertRaises(TooMany):
                    ask(deeds)

    def test_one_deed_then_another(self):
        self.assertEqual(family(EVEN)[4], one_then(*EVEN))
        self.assertEqual(words(EVEN)[:6], ((), (0,), (1,), (0, 0), (0, 1), (1, 0)))

    def test_no_table(self):
        for thing in NO_GIVEN:
            for ask in (family, words):
                with self.assertRaises(NoTable):
                    ask(thing)


if __name__ == "__main__":
    unittest.main()
