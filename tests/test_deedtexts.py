"""Texts of deeds: promise 8."""

import itertools
import unittest

from joinedasks.deeds import again, is_deed
from joinedasks.deedtexts import deed_text, read_deed
from joinedasks.errors import NoDeed, NoText
from samples import BIG, BIG_DEEDS, DEEDS, NO_DEEDS, ODD_THINGS, ODD_TUPLES

TEXTS = {
    "look": (0, None, None),
    "set 0": (0, 0, 0),
    "set -7": (0, -7, -7),
    "add 5": (5, None, None),
    "add -5": (-5, None, None),
    "low 0": (0, 0, None),
    "low -3": (0, -3, None),
    "high 12": (0, None, 12),
    "low -3 high 0": (0, -3, 0),
    "add 1 low 0": (1, 0, None),
    "add -1 high 100": (-1, None, 100),
    "add 10 low -10 high 10": (10, -10, 10),
}

WRONG = [
    "", " ", "  ", "look ", " look", "Look", "LOOK", "looks", "look 0", "look look", "look add 1",
    "add", "low", "high", "set", "add ", "set ", "add x", "set x", "set None", "low None", "add 1 low",
    "add 0", "add -0", "low -0", "high -0", "set -0", "add 00", "low 00", "set 00", "add 01", "add -01",
    "set 01", "low 007", "add +1", "set +1", "low +0", "add 1 ", " add 1", "add  1", "add 1  low 2",
    "add 1 low 2 ", "add 1\n", "add\t1", "add1", "add 1,", "add 1;", "add 1.0", "add 1_0", "add 0x1",
    "low 1 add 1", "high 1 low 0", "high 5 add 1", "add 1 high 5 low 1", "add 1 add 1", "add 1 add 2",
    "low 1 low 1", "high 1 high 1", "set 1 set 1", "set 1 add 1", "add 1 set 1", "set 1 low 1", "low 1 set 1",
    "low 2 high 1", "add 1 low 2 high 1", "low 1 high 1", "add 1 low 1 high 1", "add 0 low 1", "add 0 low 1 high 2",
    "low 0 high -1", "set 1 2", "add 1 2", "1", "1 add", "add low 1", "put 1", "add 1 to 2", "set 1 x", "low 1 high",
    "add - 1", "add --1", "add 1-", "(0, None, None)", "add 1 low 2 high 3 x 4", "x 4 add 1", "x 4", "\u0661",
    "add \u0661", "add \u00b2", "set \u0660", "add\u00a01", "~", "add " + "0" * 1000, "add 1" + " " * 1000,
]


class DeedText(unittest.TestCase):
    def test_each_form(self):
        for text, deed in TEXTS.items():
            self.assertEqual(deed_text(deed), text)

    def test_unlike_deeds_are_written_unlike(self):
        deeds = DEEDS + BIG_DEEDS
        self.assertEqual(len({deed_text(deed) for deed in deeds}), len(set(deeds)))

    def test_more_figures_than_python_writes_at_once(self):
        deed = (10 ** 29, -(10 ** 29), None)
        for turn in range(8):
            deed = again(deed, deed[0])
        self.assertTrue(deed_text(deed).startswith("add 1" + "0" * (29 * 256) + " low 9"))
        self.assertTrue(read_deed(deed_text(deed)) == deed)

    def test_refusals(self):
        for thing in NO_DEEDS:
            with self.assertRaises(NoDeed):
                deed_text(thing)


class ReadDeed(unittest.TestCase):
    def test_each_form(self):
        for text, deed in TEXTS.items():
            self.assertEqual(read_deed(text), deed)

    def test_there_and_back(self):
        for deed in DEEDS + BIG_DEEDS + [(10 ** 30 - 1, 1 - 10 ** 30, 10 ** 30 - 1)]:
            self.assertEqual(read_deed(deed_text(deed)), deed)

    def test_wrong_texts(self):
        for text in WRONG:
            with self.assertRaises(NoText, msg=text):
                read_deed(text)

    def test_just_what_is_written_is_read(self):
        right = {deed_text((add, low, high)): (add, low, high)
                 for add in (-1, 0, 2) for low in (None, -1, 0, 2) for high in (None, -1, 0, 2)
                 if is_deed((add, low, high))}
        pieces = ["look", "set", "add", "low", "high", "-1", "0", "2", "-0", "02", "+2", ""]
        read = 0
        for many in range(1, 5):
            for words in itertools.product(pieces, repeat=many):
                text = " ".join(words)
                if text in right:
                    self.assertEqual(read_deed(text), right[text])
                    read += 1
                else:
                    with self.assertRaises(NoText, msg=text):
                        read_deed(text)
        self.assertEqual(read, len([text for text in right if text.count(" ") < 4]))

    def test_no_texts(self):
        for thing in ODD_THINGS + ODD_TUPLES + [0, 5, BIG, ["look"], ("look",), b"add 1"] + DEEDS:
            with self.assertRaises(NoText):
                read_deed(thing)


if __name__ == "__main__":
    unittest.main()
