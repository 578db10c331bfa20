"""Tokens: promise 31, and 4 as far as it speaks of these."""

import itertools
import random
import unittest

from joinedasks.errors import NoNet, NoSide, NoToken, TooMany
from joinedasks.tokens import Counter
from samples import BIG, NO_NETS, NO_NUMBERS
from test_toggles import COUNTED, TOGGLES

DEPTHS = range(4)


class PlainCounter:
    """By the words of promise 31, with the toggles as they are written out."""

    def __init__(self, k):
        self.k = k
        self.up = {at: True for at in range(len(TOGGLES[k]))}
        self.line = []
        self.last = []
        self.out = []

    def come(self, line):
        self.line.append(line)
        self.last.append(-1)

    def go(self, token):
        for at, toggle in enumerate(TOGGLES[self.k]):
            if at > self.last[token] and self.line[token] in toggle:
                self.line[token] = toggle[0] if self.up[at] else toggle[1]
                self.up[at] = not self.up[at]
                self.last[token] = at
                return None
        ahead = self.out.count(self.line[token])
        self.out.append(self.line[token])
        return 2 ** self.k * ahead + COUNTED[self.k].index(self.line[token])


def seen(counter):
    return (counter.inside(), counter.outs(), counter.told())


def come_out(counter, token):
    """Lets the token go on until it is out."""
    told = None
    while told is None:
        told = counter.go(token)
    return told


class Tokens(unittest.TestCase):
    def rules(self, counter, came):
        told, outs = counter.told(), counter.outs()
        self.assertIsInstance(told, tuple)
        self.assertIsInstance(outs, tuple)
        self.assertEqual(len(set(told)), len(told))
        self.assertEqual(list(told), sorted(told))
        self.assertTrue(all(0 <= number < came for number in told))
        self.assertEqual(counter.inside(), came - len(told))
        self.assertEqual(sum(outs), len(told))
        if len(told) == came:
            self.assertEqual(told, tuple(range(came)))
            for lesser, greater in itertools.combinations(outs, 2):
                self.assertIn(lesser - greater, (0, 1))

    def test_at_first(self):
        for k in DEPTHS:
            self.assertEqual(seen(Counter(k)), (0, (0,) * 2 ** k, ()))

    def test_as_written(self):
        counter = Counter(1)
        self.assertEqual([counter.come(1), counter.come(1), counter.come(0)], [0, 1, 2])
        self.assertIs(counter.go(1), None)
        self.assertIs(counter.go(0), None)
        self.assertIs(counter.go(2), None)
        self.assertEqual(seen(counter), (3, (0, 0), ()))
        # Token 1 passed first and is on line 0; so is token 2.
        self.assertEqual(counter.go(2), 0)
        self.assertEqual(seen(counter), (2, (1, 0), (0,)))
        self.assertEqual(counter.go(1), 2)
        self.assertEqual(counter.go(0), 1)
        self.assertEqual(seen(counter), (0, (2, 1), (0, 1, 2)))

    def test_no_toggles(self):
        counter = Counter(0)
        for token in range(40):
            self.assertEqual(counter.come(0), token)
        for place, token in enumerate(range(39, -1, -1)):
            self.assertEqual(counter.go(token), place)
        self.assertEqual(seen(counter), (0, (40,), tuple(range(40))))

    def test_one_alone_step_by_step(self):
        # Passes (2, 3), (1, 2), (0, 1) and comes out at place 0.
        counter = Counter(2)
        counter.come(3)
        self.assertEqual([counter.go(0) for turn in range(4)], [None, None, None, 0])
        # The next one passes (2, 3) to 3, (0, 3) to 0, (0, 1) to 1.
        counter.come(2)
        self.assertEqual([counter.go(1) for turn in range(4)], [None, None, None, 1])
        self.assertEqual(counter.outs(), (1, 1, 0, 0))

    def test_how_many_steps(self):
        for k in DEPTHS:
            for line in range(2 ** k):
                counter = Counter(k)
                counter.come(line)
                steps = k * (k + 1) // 2
                self.assertEqual([counter.go(0) for turn in range(steps + 1)], [None] * steps + [0])

    def test_one_behind_another(self):
        chance = random.Random(31)
        for k in DEPTHS:
            for turn in range(20):
                counter = Counter(k)
                for number in range(40):
                    line = chance.randrange(2 ** k) if turn else 2 ** k - 1
                    self.assertEqual(counter.come(line), number)
                    self.assertEqual(come_out(counter, number), number)
                    self.rules(counter, number + 1)

    def test_all_turns_of_three(self):
        # Each token comes and goes on twice, in all orders.
        for order in set(itertools.permutations((0, 0, 0, 1, 1, 1, 2, 2, 2))):
            for lines in ((0, 0, 0), (0, 1, 0), (1, 0, 1)):
                counter, numbers = Counter(1), {}
                for who in order:
                    if who not in numbers:
                        numbers[who] = counter.come(lines[who])
                    else:
                        counter.go(numbers[who])
                self.assertEqual((counter.told(), counter.outs()), ((0, 1, 2), (2, 1)))

    def run_one(self, chance, k, many, lines, steady):
        counter, plain = Counter(k), PlainCounter(k)
        came, inside, told = 0, [], {}
        while came < many or inside:
            if came < many and (not inside or chance.random() < steady):
                line = chance.choice(lines)
                self.assertEqual(counter.come(line), came)
                plain.come(line)
                inside.append(came)
                came += 1
            else:
                token = chance.choice(inside)
                number = counter.go(token)
                self.assertEqual(number, plain.go(token))
                if number is not None:
                    told[token] = number
                    inside.remove(token)
            self.assertEqual(counter.told(), tuple(sorted(told.values())))
            self.rules(counter, came)
        self.assertEqual(sorted(told.values()), list(range(many)))

    def test_many_turns(self):
        chance = random.Random(310)
        for turn in range(160):
            k = chance.choice((1, 2, 3, 3))
            lines = chance.choice((list(range(2 ** k)), [chance.randrange(2 ** k)], [0, 2 ** k - 1]))
            self.run_one(chance, k, chance.randint(1, 40), lines, chance.choice((0.05, 0.3, 1)))

    def test_the_last_one_goes_first(self):
        for k in DEPTHS:
            for many in range(1, 41):
                counter = Counter(k)
                for token in range(many):
                    counter.come(token * 3 % 2 ** k)
                for token in range(many - 1, -1, -1):
                    come_out(counter, token)
                self.rules(counter, many)

    def test_one_is_held_up(self):
        # The first token waits behind its first toggle until all others are out.
        for k in (1, 2, 3):
            counter = Counter(k)
            counter.come(0)
            counter.go(0)
            for token in range(1, 40):
                counter.come(token % 2 ** k)
                come_out(counter, token)
                self.rules(counter, token + 1)
            missing = [number for number in range(40) if number not in counter.told()]
            self.assertEqual([come_out(counter, 0)], missing)
            self.rules(counter, 40)

    def test_two_beside_one_another(self):
        one, other = Counter(2), Counter(2)
        one.come(3)
        come_out(one, 0)
        self.assertEqual(seen(other), (0, (0, 0, 0, 0), ()))
        with self.assertRaises(NoToken):
            other.go(0)
        self.assertEqual(other.come(1), 0)
        self.assertEqual(come_out(other, 0), 0)
        self.assertEqual((seen(one), seen(other)), ((0, (1, 0, 0, 0), (0,)),) * 2)

    def test_what_was_told_stays(self):
        counter = Counter(1)
        counter.come(0)
        come_out(counter, 0)
        told, outs = counter.told(), counter.outs()
        counter.come(0)
        come_out(counter, 1)
        self.assertEqual((told, outs), ((0,), (1, 0)))


class Refusals(unittest.TestCase):
    def test_no_net(self):
        for k in NO_NETS + [4]:
            with self.assertRaises(NoNet):
                Counter(k)

    def unchanged(self, counter, ahead, error, deed, things):
        for thing in things:
            with self.assertRaises(error):
                deed(thing)
            self.assertEqual(seen(counter), ahead)

    def test_no_side(self):
        for k in DEPTHS:
            for many in (0, 3, 40):
                counter = Counter(k)
                for token in range(many):
                    counter.come(0)
                wrong = NO_NUMBERS + [-1, 2 ** k, 2 ** k + 1, 8, BIG, -BIG]
                self.unchanged(counter, (many, (0,) * 2 ** k, ()), NoSide, counter.come, wrong)

    def test_forty_and_one_more(self):
        for k in DEPTHS:
            counter = Counter(k)
            for token in range(40):
                self.assertEqual(counter.come(token % 2 ** k), token)
            for turn in range(2):
                self.unchanged(counter, seen(counter), TooMany, counter.come, range(2 ** k))
                with self.assertRaises(NoToken):
                    counter.go(40)
                for token in range(40 if turn == 0 else 0):
                    come_out(counter, token)
            self.assertEqual(counter.told(), tuple(range(40)))

    def test_no_token(self):
        for k in DEPTHS:
            counter = Counter(k)
            for many in range(4):
                wrong = NO_NUMBERS + [-1, -2, many, many + 1, 39, 40, BIG, -BIG]
                self.unchanged(counter, (many, (0,) * 2 ** k, ()), NoToken, counter.go, wrong)
                counter.come(0)

    def test_one_that_is_out(self):
        for k in DEPTHS:
            counter = Counter(k)
            for token in range(3):
                counter.come(0)
            self.assertEqual(come_out(counter, 1), 0)
            ahead = seen(counter)
            self.assertEqual(ahead[0], 2)
            for turn in range(3):
                self.unchanged(counter, ahead, NoToken, counter.go, [1, 1])
            self.assertEqual([come_out(counter, token) for token in (0, 2)], [1, 2])

    def test_what_is_refused_changes_nothing(self):
        # The toggles neither: whatever is refused in between, all is told as without.
        plain, counter = Counter(3), Counter(3)
        for token in range(20):
            for own in (plain, counter):
                own.come(token % 8)
            for thing in (None, 99, -1, True):
                with self.assertRaises(NoToken):
                    counter.go(thing)
                with self.assertRaises(NoSide):
                    counter.come(thing if thing is not None else 8)
        for token in range(20):
            self.assertEqual(come_out(plain, token), come_out(counter, token))
            with self.assertRaises(NoToken):
                counter.go(token)
        self.assertEqual(seen(plain), seen(counter))


if __name__ == "__main__":
    unittest.main()
