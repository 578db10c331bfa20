"""Settings: promise 14, and 4 as far as it speaks of them."""

import itertools
import random
import unittest

from joinedasks.errors import NoNet, NoSettings, NoSide
from joinedasks.net import first_shared
from joinedasks.settings import is_settings, led, settings_for, straight
from samples import NO_NETS, NO_NUMBERS, all_settings, by_figures, figures_of, no_settings, some_settings

DEPTHS = range(5)


def plainly_led(k, settings):
    """Where each hand is led, by figures."""
    sides = []
    for hand in range(2 ** k):
        figures = figures_of(k, hand)
        for place in range(k):
            number = by_figures(figures[:place] + figures[place + 1:])
            if settings[place][number] == 1:
                figures[place] = 1 - figures[place]
        sides.append(by_figures(figures))
    return tuple(sides)


class IsSettings(unittest.TestCase):
    def test_settings(self):
        for k in DEPTHS:
            for settings in some_settings(k):
                self.assertIs(is_settings(k, settings), True, settings)

    def test_as_written(self):
        self.assertIs(is_settings(0, ()), True)
        self.assertIs(is_settings(1, ((1,),)), True)
        self.assertIs(is_settings(2, ((0, 1), (1, 0))), True)
        self.assertIs(is_settings(2, ((0, 1), (1, 2))), False)

    def test_of_other_depths(self):
        for k in DEPTHS:
            for other in DEPTHS:
                self.assertIs(is_settings(k, straight(other)), k == other)

    def test_of_anything_else(self):
        for k in DEPTHS:
            for thing in no_settings(k):
                self.assertIs(is_settings(k, thing), False, (k, thing))

    def test_no_net(self):
        for k in NO_NETS:
            for thing in ((), ((0,),), None, [], straight(2)):
                with self.assertRaises(NoNet):
                    is_settings(k, thing)


class Straight(unittest.TestCase):
    def test_as_written(self):
        self.assertEqual(straight(0), ())
        self.assertEqual(straight(1), ((0,),))
        self.assertEqual(straight(2), ((0, 0), (0, 0)))
        self.assertEqual(straight(3), ((0,) * 4,) * 3)
        self.assertEqual(straight(4), ((0,) * 8,) * 4)

    def test_each_hand_to_its_own_side(self):
        for k in DEPTHS:
            self.assertEqual(led(k, straight(k)), tuple(range(2 ** k)))

    def test_no_net(self):
        for k in NO_NETS:
            with self.assertRaises(NoNet):
                straight(k)


class Led(unittest.TestCase):
    def test_as_written(self):
        self.assertEqual(led(0, ()), (0,))
        self.assertEqual(led(1, ((1,),)), (1, 0))
        self.assertEqual(led(2, ((1, 0), (0, 0))), (2, 1, 0, 3))
        self.assertEqual(led(2, ((0, 0), (1, 0))), (1, 0, 2, 3))
        self.assertEqual(led(2, ((1, 0), (1, 0))), (2, 0, 1, 3))

    def test_by_figures(self):
        for k in DEPTHS:
            for settings in some_settings(k):
                sides = led(k, settings)
                self.assertEqual(sides, plainly_led(k, settings), (k, settings))
                self.assertEqual(sorted(sides), list(range(2 ** k)))

    def test_unlike_settings_lead_elsewhere(self):
        for k in range(4):
            every = list(all_settings(k))
            self.assertEqual(len({led(k, settings) for settings in every}), len(every))

    def test_no_net(self):
        for k in NO_NETS:
            for settings in ((), ((0,),), None, straight(2)):
                with self.assertRaises(NoNet):
                    led(k, settings)

    def test_no_settings(self):
        for k in DEPTHS:
            for settings in no_settings(k):
                with self.assertRaises(NoSettings):
                    led(k, settings)


def no_sides(k):
    """What is no row of a side for each hand."""
    right = tuple(range(2 ** k))
    wrong = [thing for thing in NO_NUMBERS if k > 0 or thing != (0,)] + [0, list(right), right + (0,), right[:-1], (right,)]
    for place in range(2 ** k):
        for side in NO_NUMBERS + [-1, 2 ** k, 16]:
            wrong.append(right[:place] + (side,) + right[place + 1:])
    return wrong


class SettingsFor(unittest.TestCase):
    def check(self, k, sides):
        told = settings_for(k, sides)
        clash = first_shared(k, tuple(enumerate(sides)))
        if clash is None:
            self.assertEqual(told[0], "settings")
            self.assertEqual(len(told), 2)
            self.assertIs(is_settings(k, told[1]), True)
            self.assertEqual(led(k, told[1]), sides)
        else:
            self.assertEqual(told, ("clash", clash))
        return told

    def test_as_written(self):
        self.assertEqual(settings_for(0, (0,)), ("settings", ()))
        self.assertEqual(settings_for(1, (0, 1)), ("settings", ((0,),)))
        self.assertEqual(settings_for(1, (1, 0)), ("settings", ((1,),)))
        self.assertEqual(settings_for(1, (1, 1)), ("clash", (1, 1)))
        self.assertEqual(settings_for(2, (1, 0, 3, 2)), ("settings", ((0, 0), (1, 1))))
        self.assertEqual(settings_for(2, (0, 2, 1, 3)), ("clash", (1, 0)))
        self.assertEqual(settings_for(2, (0, 0, 2, 3)), ("clash", (2, 0)))

    def test_back_to_just_these_settings(self):
        for k in DEPTHS:
            for settings in some_settings(k):
                self.assertEqual(settings_for(k, led(k, settings)), ("settings", settings))

    def test_all_rows_of_sides(self):
        for k in range(3):
            for sides in itertools.product(range(2 ** k), repeat=2 ** k):
                self.check(k, sides)

    def test_just_where_there_are_settings(self):
        for k in (2, 3):
            reached = {led(k, settings) for settings in all_settings(k)}
            for sides in itertools.islice(itertools.permutations(range(2 ** k)), 0, None, 7):
                self.assertEqual(self.check(k, sides)[0] == "settings", sides in reached)

    def test_one_side_twice(self):
        for k in range(1, 5):
            for settings in some_settings(k)[:20]:
                sides = led(k, settings)
                for place in range(2 ** k):
                    twice = sides[:place] + (sides[place - 1],) + sides[place + 1:]
                    self.assertEqual(self.check(k, twice)[0], "clash")

    def test_two_sides_changed_about(self):
        for k in range(1, 5):
            for settings in some_settings(k)[:10]:
                for place in range(1, 2 ** k):
                    sides = list(led(k, settings))
                    sides[0], sides[place] = sides[place], sides[0]
                    self.check(k, tuple(sides))

    def test_by_chance(self):
        chance = random.Random(14)
        for k in (3, 4):
            for turn in range(200):
                sides = list(range(2 ** k))
                chance.shuffle(sides)
                self.check(k, tuple(sides))

    def test_no_net(self):
        for k in NO_NETS:
            for sides in ((), (0,), (0, 1), None, [0]):
                with self.assertRaises(NoNet):
                    settings_for(k, sides)

    def test_no_side(self):
        for k in range(4):
            for sides in no_sides(k):
                with self.assertRaises(NoSide):
                    settings_for(k, sides)


if __name__ == "__main__":
    unittest.main()
