"""The refusals' classes."""

import unittest

from joinedasks import errors

NAMES = (
    "NoNet", "NoTable", "NoNumber", "NoDeed", "NoBoard", "NoAsk", "NoTree", "NoHand", "NoSide",
    "NoSettings", "NoCalls", "TooMany", "NoOrder", "NoToken", "NoText", "NoRow",
)


class Errors(unittest.TestCase):
    def test_any_refusal_is_a_value_error(self):
        self.assertEqual(errors.AskError.__bases__, (ValueError,))

    def test_each_stands_straight_under_ask_error(self):
        for name in NAMES:
            self.assertEqual(getattr(errors, name).__bases__, (errors.AskError,), name)

    def test_none_is_another_one(self):
        for name in NAMES:
            for other in NAMES:
                under = issubclass(getattr(errors, name), getattr(errors, other))
                self.assertEqual(under, name == other, (name, other))

    def test_they_stand_in_the_order_of_the_document(self):
        found = [name for name, thing in vars(errors).items() if isinstance(thing, type)]
        self.assertEqual(found, ["AskError"] + list(NAMES))

    def test_each_is_made_of_a_text(self):
        for name in ("AskError",) + NAMES:
            with self.assertRaises(ValueError) as met:
                raise getattr(errors, name)("why so")
            self.assertEqual(str(met.exception), "why so")


if __name__ == "__main__":
    unittest.main()
