"""[4]: the errors, what they keep, and in which order arguments are checked."""

import unittest

from stopsfirst import errors
from stopsfirst.court import is_locked
from stopsfirst.pairs import between, built_up, cut_down, middles, upper_middles
from stopsfirst.rulebooks import Rulebook
from tests.helper import Weird, lot, raised

NUMBERED = (
    "InvalidServices", "InvalidRule", "InvalidText", "InvalidState", "NotAllowed", "InvalidPlan", "InvalidBatches",
    "InvalidCost", "InvalidPrices", "InvalidQuestion", "Refused",
)
BARE = ("NotBendable", "InvalidCommand")


class ErrorTest(unittest.TestCase):
    def test_all_are_direct_subclasses(self):
        self.assertEqual(errors.StopError.__bases__, (ValueError,))
        for name in NUMBERED + BARE:
            self.assertEqual(getattr(errors, name).__bases__, (errors.StopError,), name)

    def test_none_is_another_one(self):
        classes = [getattr(errors, name) for name in NUMBERED + BARE]
        self.assertEqual(len(set(classes)), 13)
        for one in classes:
            for other in classes:
                self.assertEqual(issubclass(one, other), one is other)

    def test_any_argument_is_kept(self):
        for name in NUMBERED:
            made = getattr(errors, name)
            for at in (0, 3, -1, None, "a", [1], ("a", 2), {"a": []}, object(), Weird()):
                self.assertIs(made(at).at, at)
                self.assertIs(made(at=at).at, at)

    def test_those_without_an_argument(self):
        for name in BARE:
            self.assertFalse(hasattr(getattr(errors, name)(), "at"))

    def test_they_are_caught_as_value_errors(self):
        for name in NUMBERED:
            with self.assertRaises(ValueError) as caught:
                raise getattr(errors, name)(4)
            self.assertEqual(caught.exception.at, 4)
        for name in BARE:
            with self.assertRaises(errors.StopError):
                raise getattr(errors, name)()


class OrderTest(unittest.TestCase):
    """Two states: first what is no lot of services, for both; behind this what is not allowed."""

    def setUp(self):
        self.book = Rulebook("a b c".split(), [("imply", ["a"], ["b"])])

    def test_states(self):
        good = lot("ab")
        forbidden = lot("a")
        for ask in (middles, upper_middles, cut_down, built_up, is_locked):
            for odd in (lot("d"), ["a", "b"], ("b", "a"), ("b", "b"), "ab", None, 0, Weird()):
                self.assertEqual(raised(ask, self.book, odd, good), (errors.InvalidState, 0))
                self.assertEqual(raised(ask, self.book, good, odd), (errors.InvalidState, 1))
                self.assertEqual(raised(ask, self.book, odd, odd), (errors.InvalidState, 0))
                self.assertEqual(raised(ask, self.book, odd, forbidden), (errors.InvalidState, 0))
                self.assertEqual(raised(ask, self.book, forbidden, odd), (errors.InvalidState, 1))
            self.assertEqual(raised(ask, self.book, forbidden, good), (errors.NotAllowed, 0))
            self.assertEqual(raised(ask, self.book, good, forbidden), (errors.NotAllowed, 1))
            self.assertEqual(raised(ask, self.book, forbidden, forbidden), (errors.NotAllowed, 0))
            self.assertIsNone(raised(ask, self.book, good, good))

    def test_services_before_rules(self):
        self.assertEqual(raised(Rulebook, ["a", "A"], [("imply",)]), (errors.InvalidServices, 1))
        self.assertEqual(raised(Rulebook, ["a"], [("imply",)]), (errors.InvalidRule, 0))

    def test_low_before_high(self):
        self.assertEqual(raised(between, self.book, None, None), (errors.InvalidState, 0))
        self.assertEqual(raised(between, self.book, (), None), (errors.InvalidState, 1))


if __name__ == "__main__":
    unittest.main()
