"""Tables of pairs: promises 24 and 25."""

import random
import unittest

from joinedasks.errors import NoNumber, NoTable, NoTree, TooMany
from joinedasks.families import family
from joinedasks.pairs import broken, folded_by, held, own_table, shared_by
from joinedasks.trees import chained, halved
from samples import BIG, NO_NUMBERS
from tablesamples import EVEN, FEW, NO_DEEDS_BY_TABLE, NO_GIVEN, OF_MORE, OF_SIXTY, one_then
from treesamples import NO_TREES, all_trees, some_trees

NO_TABLES = [thing for thing in NO_NUMBERS if thing != ()] + [
    (), 0, (0,), ((),), ((1,),), ((-1,),), ((0, 0),), ((0,), (0,)), [(0,)], ([0],), ((False,),), ((None,),), ("0",),
    ((0, 1), (1,)), ((0, 1), (1, 2)), ((0, 1), (1, -1)), ((0, 1), (1, True)), ((0, 1), [1, 0]), ((0, 1), (1, 0), (0, 1)),
    ((0, 1, 0), (1, 0, 0)), ((0, 1), (1, "0")), ((0, 1), (1, (0,))), ((0, 1), (1, BIG)), ((0, 1), None), (((0,),),),
    ((0,) * 61,) * 61, ((0,) * 61,) * 60, ((0,) * 60,) * 61,
]
PARITY = ((0, 1), (1, 0))
FLIP = ((0, 1), (1, 0))


def first_not_held(deeds, table):
    many = len(table)
    pairs = [(i, j) for i in range(many) for j in range(many)]
    return min([(i, j) for i, j in pairs if deeds[table[i][j]] != one_then(deeds[i], deeds[j])], default=None)


def first_broken(table):
    many = range(len(table))
    found = [(i, j, l) for i in many for j in many for l in many if table[table[i][j]][l] != table[i][table[j][l]]]
    return min(found, default=None)


def changed(table, i, j, number):
    row = table[i][:j] + (number,) + table[i][j + 1:]
    return table[:i] + (row,) + table[i + 1:]


def any_table(chance, many):
    return tuple(tuple(chance.randrange(many) for j in range(many)) for i in range(many))


class OwnTable(unittest.TestCase):
    def test_as_written(self):
        self.assertEqual(own_table(((0,),)), ((0,),))
        self.assertEqual(own_table(((1, 0),)), PARITY)
        self.assertEqual(own_table(((0, 0), (1, 0))), ((0, 1, 2, 3), (1, 1, 3, 3), (2, 1, 0, 3), (3, 1, 1, 3)))

    def test_holds_and_no_grouping_breaks_it(self):
        for deeds in FEW + OF_SIXTY:
            table, members = own_table(deeds), family(deeds)
            self.assertEqual({len(row) for row in table} | {len(table)}, {len(members)})
            for i, one in enumerate(members):
                for j, other in enumerate(members):
                    self.assertEqual(members[table[i][j]], one_then(one, other))
            self.assertIs(held(members, table), None)
            self.assertIs(broken(table), None)

    def test_too_many(self):
        for deeds in OF_MORE:
            with self.assertRaises(TooMany):
                own_table(deeds)

    def test_no_table(self):
        for thing in NO_GIVEN:
            with self.assertRaises(NoTable):
                own_table(thing)


class Held(unittest.TestCase):
    def test_changed_at_one_place(self):
        for deeds in FEW + [EVEN]:
            members, table = family(deeds), own_table(deeds)
            many = len(table)
            for i, j in {(0, 0), (0, many - 1), (many - 1, 0), (many - 1, many - 1), (many // 2, many // 3)}:
                if many > 1:
                    other = changed(table, i, j, (table[i][j] + 1) % many)
                    self.assertEqual(held(members, other), (i, j))

    def test_the_first_of_two(self):
        members, table = family(EVEN), own_table(EVEN)
        for one, other in (((3, 50), (4, 2)), ((4, 2), (3, 50)), ((7, 9), (7, 8)), ((59, 59), (0, 59))):
            wrong = changed(table, one[0], one[1], (table[one[0]][one[1]] + 7) % 60)
            wrong = changed(wrong, other[0], other[1], (table[other[0]][other[1]] + 9) % 60)
            self.assertEqual(held(members, wrong), min(one, other))

    def test_alike_deeds_in_the_row(self):
        # Which of two alike ones stands there is all the same.
        for table in (((0, 1), (1, 0)), ((0, 0), (0, 0)), ((1, 1), (1, 1)), ((1, 0), (0, 0))):
            self.assertIs(held(((0, 1), (0, 1)), table), None)
            self.assertEqual(held(((1, 0), (1, 0)), table), (0, 0))
        deeds = ((0, 1), (1, 0), (0, 1))
        self.assertIs(held(deeds, ((2, 1, 0), (1, 0, 1), (0, 1, 2))), None)
        self.assertEqual(held(deeds, ((2, 1, 0), (1, 0, 1), (0, 1, 1))), (2, 2))

    def test_deeds_not_of_a_family(self):
        self.assertEqual(held(((1, 0),), ((0,),)), (0, 0))
        self.assertIs(held(((1, 1),), ((0,),)), None)
        self.assertIs(held(((0, 0), (1, 1)), ((0, 1), (0, 1))), None)
        self.assertEqual(held(((0, 0), (1, 1)), ((0, 0), (0, 1))), (0, 1))

    def test_by_chance(self):
        chance = random.Random(24)
        for turn in range(400):
            many, states = chance.randint(1, 4), chance.randint(1, 3)
            deeds = tuple(tuple(chance.randrange(states) for state in range(states)) for deed in range(many))
            table = any_table(chance, many)
            self.assertEqual(held(deeds, table), first_not_held(deeds, table))

    def test_sixty_rows(self):
        deeds = ((0, 1, 2),) * 60
        self.assertIs(held(deeds, ((7,) * 60,) * 60), None)

    def test_no_table(self):
        for table in NO_TABLES:
            for deeds in (((0, 1),), ((0, 1), (1, 0)), None, ()):
                with self.assertRaises(NoTable):
                    held(deeds, table)

    def test_no_deeds_by_table(self):
        wrong = [thing for thing in NO_NUMBERS] + [0, ((0, 1),), ((0, 1),) * 3, [(0, 1), (1, 0)], ((0, 1), (0,)), ((0,), (0, 1))]
        wrong += [((0, 1), thing) for thing in NO_DEEDS_BY_TABLE] + [(thing, (0, 1)) for thing in NO_DEEDS_BY_TABLE]
        for deeds in wrong:
            with self.assertRaises(NoTable):
                held(deeds, PARITY)


class Broken(unittest.TestCase):
    def test_as_written(self):
        self.assertIs(broken(((0,),)), None)
        self.assertIs(broken(PARITY), None)
        self.assertEqual(broken(((1, 1), (0, 0))), (0, 0, 0))
        self.assertEqual(broken(((0, 1, 2), (1, 0, 0), (2, 0, 0))), (1, 1, 2))

    def test_all_of_two_rows(self):
        for marks in range(16):
            table = ((marks & 1, marks >> 1 & 1), (marks >> 2 & 1, marks >> 3 & 1))
            self.assertEqual(broken(table), first_broken(table))

    def test_by_chance(self):
        chance = random.Random(25)
        for turn in range(300):
            table = any_table(chance, chance.randint(1, 5))
            self.assertEqual(broken(table), first_broken(table))

    def test_changed_at_one_place(self):
        chance = random.Random(26)
        for deeds in FEW:
            table = own_table(deeds)
            many = len(table)
            for turn in range(8):
                other = changed(table, chance.randrange(many), chance.randrange(many), chance.randrange(many))
                self.assertEqual(broken(other), first_broken(other))
        table = own_table(EVEN)
        other = changed(table, 59, 59, (table[59][59] + 1) % 60)
        self.assertEqual(broken(other), first_broken(other))

    def test_no_table(self):
        for table in NO_TABLES:
            with self.assertRaises(NoTable):
                broken(table)


def plainly_folded(table, numbers, tree):
    if isinstance(tree, int):
        return numbers[tree]
    return table[plainly_folded(table, numbers, tree[0])][plainly_folded(table, numbers, tree[1])]


def plainly_shared(deeds, table, numbers, tree, state):
    if isinstance(tree, int):
        return [state]
    left = plainly_shared(deeds, table, numbers, tree[0], state)
    passed = deeds[plainly_folded(table, numbers, tree[0])][state]
    return left + plainly_shared(deeds, table, numbers, tree[1], passed)


def in_turn(deeds, numbers, state):
    """The states that come to the asks, one after another."""
    states = []
    for number in numbers:
        states.append(state)
        state = deeds[number][state]
    return tuple(states)


class FoldedBy(unittest.TestCase):
    def test_as_written(self):
        self.assertEqual(folded_by(PARITY, (1,), 0), 1)
        self.assertEqual(folded_by(PARITY, (1, 1), (0, 1)), 0)
        self.assertEqual(folded_by(PARITY, (1, 1, 1), ((0, 1), 2)), 1)
        self.assertEqual(shared_by(FLIP, PARITY, (1,), 0, 1), (1,))
        self.assertEqual(shared_by(FLIP, PARITY, (1, 1, 0, 1), ((0, 1), (2, 3)), 0), (0, 1, 0, 0))
        # A table that does not hold: what goes to the right is made by the left's number.
        self.assertEqual(shared_by(FLIP, ((1, 1), (1, 1)), (0, 0, 0), ((0, 1), 2), 0), (0, 0, 1))
        self.assertEqual(shared_by(FLIP, ((1, 1), (1, 1)), (0, 0, 0), (0, (1, 2)), 0), (0, 0, 0))

    def test_the_left_stands_first(self):
        table = ((0, 1), (0, 1))
        self.assertEqual(folded_by(table, (0, 1), (0, 1)), 1)
        self.assertEqual(folded_by(table, (1, 0), (0, 1)), 0)

    def test_by_any_tree_the_same_where_the_table_holds(self):
        chance = random.Random(27)
        for deeds in FEW + [EVEN]:
            members, table = family(deeds), own_table(deeds)
            for many in (1, 2, 5, 39, 40):
                numbers = tuple(chance.randrange(len(table)) for at in range(many))
                together = tuple(range(len(members[0])))
                for number in numbers:
                    together = one_then(together, members[number])
                for tree in some_trees(many):
                    self.assertEqual(members[folded_by(table, numbers, tree)], together)
                    for state in range(len(members[0])):
                        self.assertEqual(
                            shared_by(members, table, numbers, tree, state), in_turn(members, numbers, state)
                        )

    def test_by_any_small_tree(self):
        chance = random.Random(28)
        for turn in range(60):
            many, states = chance.randint(1, 4), chance.randint(1, 3)
            deeds = tuple(tuple(chance.randrange(states) for state in range(states)) for deed in range(many))
            table = any_table(chance, many)
            for length in range(1, 6):
                numbers = tuple(chance.randrange(many) for at in range(length))
                for tree in all_trees(0, length):
                    state = chance.randrange(states)
                    self.assertEqual(folded_by(table, numbers, tree), plainly_folded(table, numbers, tree))
                    told = shared_by(deeds, table, numbers, tree, state)
                    self.assertEqual(told, tuple(plainly_shared(deeds, table, numbers, tree, state)))

    def test_forty_deep_where_a_grouping_breaks(self):
        chance = random.Random(29)
        for turn in range(20):
            table = any_table(chance, 3)
            deeds = ((1, 2, 0), (0, 0, 1), (2, 1, 0))
            numbers = tuple(chance.randrange(3) for at in range(40))
            for tree in some_trees(40):
                self.assertEqual(folded_by(table, numbers, tree), plainly_folded(table, numbers, tree))
                told = shared_by(deeds, table, numbers, tree, turn % 3)
                self.assertEqual(told, tuple(plainly_shared(deeds, table, numbers, tree, turn % 3)))


NO_ROWS_OF_NUMBERS = [thing for thing in NO_NUMBERS if thing != (0,)] + [
    0, 1, (2,), (-1,), (0, 2), (0, -1), [0], [0, 1], (True,), (0, False), (0, None), (0, "1"), (0, (1,)), (BIG,),
    (0,) * 41, (0,) * 60, ((0,),),
]


class Refusals(unittest.TestCase):
    def test_no_table(self):
        for table in NO_TABLES:
            for numbers, tree in (((0,), 0), (None, 0), ((0,), None), ((), ())):
                with self.assertRaises(NoTable):
                    folded_by(table, numbers, tree)
                with self.assertRaises(NoTable):
                    shared_by(FLIP, table, numbers, tree, 0)

    def test_no_deeds_by_table(self):
        wrong = NO_NUMBERS + [0, (), ((0, 1),), ((0, 1),) * 3, [(0, 1), (1, 0)], ((0, 1), (0,)), ((0, 2), (1, 0))]
        for deeds in wrong + [((0, 1), thing) for thing in NO_DEEDS_BY_TABLE]:
            for numbers, tree, state in (((0,), 0, 0), (None, 0, 0), ((0,), None, 0), ((0,), 0, None), ((), (), ())):
                with self.assertRaises(NoTable):
                    shared_by(deeds, PARITY, numbers, tree, state)

    def test_no_number(self):
        for numbers in NO_ROWS_OF_NUMBERS:
            for tree in (0, (0, 1), None, []):
                with self.assertRaises(NoNumber):
                    folded_by(PARITY, numbers, tree)
                with self.assertRaises(NoNumber):
                    shared_by(FLIP, PARITY, numbers, tree, 0)

    def test_no_state(self):
        for state in NO_NUMBERS + [-1, 2, BIG]:
            for tree in ((0, 1), 0, None, []):
                with self.assertRaises(NoNumber):
                    shared_by(FLIP, PARITY, (0, 1), tree, state)
        three = ((0, 1, 2), (1, 0, 2))
        self.assertEqual(shared_by(three, PARITY, (0, 1), (0, 1), 2), (2, 2))
        with self.assertRaises(NoNumber):
            shared_by(three, PARITY, (0, 1), (0, 1), 3)

    def test_no_tree(self):
        for tree in NO_TREES:
            with self.assertRaises(NoTree):
                folded_by(PARITY, (0, 1), tree)
            with self.assertRaises(NoTree):
                shared_by(FLIP, PARITY, (0, 1), tree, 1)
        for many in (39, 40):
            for tree in (halved(many - 1), chained(many - 1)):
                with self.assertRaises(NoTree):
                    folded_by(PARITY, (0,) * many, tree)


if __name__ == "__main__":
    unittest.main()
