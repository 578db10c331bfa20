"""Trees: promise 11, and 4 as far as it speaks of groupings."""

import unittest

from joinedasks.boards import played
from joinedasks.deeds import done, then
from joinedasks.errors import NoDeed, NoNumber, NoTree
from joinedasks.trees import chained, folded, halved, is_tree, shared_out
from samples import BIG, BIG_DEEDS, DEEDS, NO_DEEDS, NO_NUMBERS, nested, plainly
from treesamples import NO_TREES, all_trees, some_trees

ADD = (5, None, None)
NO_MANY = NO_NUMBERS + [0, -1, 41, BIG, -BIG]
LOOK = (0, None, None)
# What is no deed may be a row of deeds all the same.
NO_ROWS = (
    [thing for thing in NO_DEEDS if thing not in ((LOOK,), (LOOK, LOOK))]
    + [(), ADD, [ADD], [ADD, ADD], ([5, None, None],), ((ADD,),), (ADD,) * 41, (ADD,) * 60]
    + [(thing,) for thing in NO_DEEDS]
    + [(ADD, thing) for thing in NO_DEEDS]
    + [(thing, ADD) for thing in NO_DEEDS]
)


class IsTree(unittest.TestCase):
    def test_all_small_trees(self):
        for many in range(1, 7):
            for tree in all_trees(0, many):
                for other in range(1, 9):
                    self.assertIs(is_tree(tree, other), many == other, (tree, other))

    def test_up_to_forty_deep(self):
        for many in range(1, 41):
            for tree in some_trees(many):
                self.assertIs(is_tree(tree, many), True, tree)
                if many > 1:
                    self.assertIs(is_tree(tree, many - 1), False, tree)
                if many < 40:
                    self.assertIs(is_tree(tree, many + 1), False, tree)

    def test_of_anything_else_over_two(self):
        for thing in NO_TREES:
            self.assertIs(is_tree(thing, 2), False, thing)

    def test_over_one(self):
        for thing in (1, -1, False, True, None, (0,), [0], "0", (0, 1), ((0,),), ()):
            self.assertIs(is_tree(thing, 1), False, thing)

    def test_one_number_wrong(self):
        for many in (2, 3, 5, 40):
            for wrong in (0, 1, many - 1, many, -1, True, False, None, "1", [1], (), (1,)):
                for tree, right in self.with_one_changed(many, wrong):
                    self.assertIs(is_tree(tree, many), right, (tree, many))

    def with_one_changed(self, many, wrong):
        """Chained trees with one number changed, and whether it was that one all the same."""
        for place in range(many):
            numbers = list(range(many))
            numbers[place] = wrong
            tree = numbers[0]
            for number in numbers[1:]:
                tree = (tree, number)
            yield tree, type(wrong) is int and wrong == place

    def test_two_numbers_changed_about(self):
        self.assertIs(is_tree(((0, 2), 1), 3), False)
        self.assertIs(is_tree((1, (0, 2)), 3), False)
        self.assertIs(is_tree((2, (1, 0)), 3), False)

    def test_sixty_deep(self):
        for many in (1, 2, 40):
            for inmost in (0, 1, (0, 1), (), None, "0", [0], True):
                for outer in (lambda t: (t,), lambda t: (t, t), lambda t: (0, t), lambda t: (t, 1), lambda t: (t, ())):
                    self.assertIs(is_tree(nested(60, inmost, outer), many), False)

    def test_refusals(self):
        for many in NO_MANY:
            for thing in (0, (0, 1), None, []):
                with self.assertRaises(NoNumber):
                    is_tree(thing, many)


class Shapes(unittest.TestCase):
    def test_halved(self):
        self.assertEqual(halved(1), 0)
        self.assertEqual(halved(2), (0, 1))
        self.assertEqual(halved(3), ((0, 1), 2))
        self.assertEqual(halved(4), ((0, 1), (2, 3)))
        self.assertEqual(halved(5), (((0, 1), 2), (3, 4)))
        self.assertEqual(halved(7), (((0, 1), (2, 3)), ((4, 5), 6)))

    def numbers_in(self, tree):
        return [tree] if isinstance(tree, int) else self.numbers_in(tree[0]) + self.numbers_in(tree[1])

    def check_halves(self, tree):
        if isinstance(tree, int):
            return
        left, right = tree
        self.assertIn(len(self.numbers_in(left)) - len(self.numbers_in(right)), (0, 1))
        self.check_halves(left)
        self.check_halves(right)

    def test_halves(self):
        for many in range(1, 41):
            self.assertEqual(self.numbers_in(halved(many)), list(range(many)))
            self.check_halves(halved(many))

    def test_chained(self):
        self.assertEqual(chained(1), 0)
        self.assertEqual(chained(2), (0, 1))
        self.assertEqual(chained(3), ((0, 1), 2))
        self.assertEqual(chained(4), (((0, 1), 2), 3))
        tree = chained(40)
        for number in range(39, 0, -1):
            tree, right = tree
            self.assertEqual(right, number)
        self.assertEqual(tree, 0)

    def test_refusals(self):
        for many in NO_MANY:
            with self.assertRaises(NoNumber):
                halved(many)
            with self.assertRaises(NoNumber):
                chained(many)


def row_of(many, turn):
    deeds = DEEDS + BIG_DEEDS
    return tuple(deeds[(at * 13 + turn * 5 + at * at * turn) % len(deeds)] for at in range(many))


class Folded(unittest.TestCase):
    def test_as_written(self):
        deeds = ((3, None, 5), (-1, 0, None), (0, 2, 2))
        self.assertEqual(folded((ADD,), 0), ADD)
        self.assertEqual(folded(deeds[:2], (0, 1)), (2, 0, 4))
        self.assertEqual(folded(deeds, ((0, 1), 2)), (0, 2, 2))
        self.assertEqual(shared_out((ADD,), 0, 9), (9,))
        self.assertEqual(shared_out(deeds, ((0, 1), 2), 1), (1, 4, 3))
        self.assertEqual(shared_out(deeds, (0, (1, 2)), 1), (1, 4, 3))
        self.assertEqual(shared_out(deeds, (0, (1, 2)), BIG), (BIG, 5, 4))

    def check(self, deeds, trees, values):
        together = (0, None, None)
        for deed in deeds:
            together = then(together, deed)
        asks = tuple((0, 0, deed) for deed in deeds)
        for tree in trees:
            self.assertEqual(folded(deeds, tree), together, (deeds, tree))
            for value in values:
                answers, board = played((value,), asks)
                self.assertEqual(shared_out(deeds, tree, value), answers, (deeds, tree, value))
                self.assertEqual((done(together, value),), board)

    def test_by_any_small_tree(self):
        for many in range(1, 6):
            for turn in range(12):
                self.check(row_of(many, turn), all_trees(0, many), (-BIG, -4, 0, 3, BIG))

    def test_by_trees_over_forty(self):
        for turn in range(12):
            self.check(row_of(40, turn), some_trees(40), (-BIG, -4, 0, 3, BIG))
            self.check(row_of(39, turn), some_trees(39), (0,))

    def test_answers_one_after_another(self):
        deeds = tuple((1 + at, None, None) for at in range(40))
        value = 0
        answers = []
        for deed in deeds:
            answers.append(value)
            value = plainly(deed, value)
        for tree in some_trees(40):
            self.assertEqual(shared_out(deeds, tree, 0), tuple(answers))

    def test_no_tree(self):
        for thing in NO_TREES:
            with self.assertRaises(NoTree):
                folded((ADD, ADD), thing)
            with self.assertRaises(NoTree):
                shared_out((ADD, ADD), thing, 0)

    def test_no_row_of_deeds(self):
        for thing in NO_ROWS:
            for tree in (0, (0, 1), None, [0]):
                with self.assertRaises(NoDeed):
                    folded(thing, tree)
                with self.assertRaises(NoDeed):
                    shared_out(thing, tree, 0)

    def test_no_value_is_met_first(self):
        for value in NO_NUMBERS:
            for deeds, tree in (((ADD,), 0), ((ADD,), 1), ((), 0), (None, None), ([ADD], 0)):
                with self.assertRaises(NoNumber):
                    shared_out(deeds, tree, value)


if __name__ == "__main__":
    unittest.main()
