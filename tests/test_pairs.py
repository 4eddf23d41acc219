"""[15], [16] and [17]: what stands between two lots, and middles."""

import unittest

from stopsfirst.errors import InvalidState, NotAllowed
from stopsfirst.pairs import between, built_up, cut_down, greatest_between, least_between, middles, upper_middles
from stopsfirst.rulebooks import Rulebook
from tests import helper
from tests.helper import Weird, lot, lots, raised

BOOKS = helper.random_books(51, 24) + helper.random_books(52, 12, "abc") + helper.random_books(53, 4, "a")


class BetweenTest(unittest.TestCase):
    def test_between(self):
        for services, rules in BOOKS:
            book = Rulebook(services, rules)
            states = helper.allowed(services, rules)
            for low in helper.all_lots(services):
                for high in helper.all_lots(services):
                    told = helper.between(states, low, high)
                    self.assertEqual(between(book, low, high), tuple(told))
                    self.assertEqual(least_between(book, low, high), helper.least(told))
                    self.assertEqual(greatest_between(book, low, high), helper.greatest(told))

    def test_edges(self):
        book = Rulebook(lot("abc"), [("imply", lot("ab"), ())])
        for ask in (between, least_between, greatest_between):
            self.assertEqual(ask(book, lot("a"), lot("bc")), ())
            self.assertEqual(ask(book, lot("ab"), lot("a")), ())
            self.assertEqual(ask(book, lot("ab"), lot("ab")), ())
            self.assertEqual(ask(book, lot("ac"), lot("ac")), lots("ac"))
            self.assertEqual(ask(high=(), low=(), book=book), ((),))
            self.assertEqual(ask(Rulebook(lot("a"), [("imply", (), ())]), (), lot("a")), ())
        self.assertEqual(between(book, (), lot("abc")), lots("- a ac b bc c"))
        self.assertEqual(least_between(book, (), lot("abc")), lots("-"))
        self.assertEqual(greatest_between(book, (), lot("abc")), lots("ac bc"))

    def test_errors(self):
        book = Rulebook(lot("abcd"), [("imply", ["a"], ["b"])])
        for ask in (between, least_between, greatest_between):
            for odd in helper.ODD_VALUES + (Weird(), ["a"], lot("ae")):
                self.assertEqual(raised(ask, book, odd, ()), (InvalidState, 0), repr(odd))
                self.assertEqual(raised(ask, book, (), odd), (InvalidState, 1), repr(odd))
                self.assertEqual(raised(ask, book, odd, odd), (InvalidState, 0), repr(odd))
            self.assertIsNone(raised(ask, book, lot("a"), lot("ac")))


class MiddleTest(unittest.TestCase):
    def test_middles(self):
        for services, rules in BOOKS:
            book = Rulebook(services, rules)
            states = helper.allowed(services, rules)
            for a in states:
                for b in states:
                    told = helper.middles(states, a, b)
                    upper = [y for y in helper.between(states, b, helper.join(a, b)) if helper.meet(y, a) in states]
                    self.assertEqual(middles(book, a, b), tuple(told))
                    self.assertEqual(upper_middles(book, a, b), tuple(upper))
                    self.assertEqual(sorted({helper.join(x, b) for x in told}), upper)

    def test_cut_down_and_built_up(self):
        for services, rules in BOOKS:
            book = Rulebook(services, rules)
            states = helper.allowed(services, rules)
            for a in states:
                for b in states:
                    lower = helper.least(helper.between(states, helper.meet(a, b), a))
                    upper = helper.greatest(helper.between(states, b, helper.join(a, b)))
                    self.assertEqual(cut_down(book, a, b), lower[0])
                    self.assertEqual(built_up(book, a, b), upper[0])

    def test_by_hand(self):
        book = Rulebook(lot("abcd"), [("imply", lot("ab"), ()), ("imply", (), lot("cd"))])
        self.assertEqual(middles(book, lot("ac"), lot("bd")), lots("c"))
        self.assertEqual(upper_middles(book, lot("ac"), lot("bd")), lots("bcd"))
        self.assertEqual(middles(book, second=lot("ac"), first=lot("acd")), lots("ac acd"))
        self.assertEqual(cut_down(book, lot("acd"), lot("bd")), lot("d"))
        self.assertEqual(built_up(book, lot("acd"), lot("bd")), lot("bcd"))
        self.assertEqual(middles(book, lot("c"), lot("c")), lots("c"))
        clash = Rulebook(lot("ab"), [("imply", lot("ab"), ()), ("imply", (), lot("ab"))])
        self.assertEqual(middles(clash, lot("a"), lot("b")), ())
        self.assertEqual(upper_middles(clash, lot("a"), lot("b")), ())
        self.assertEqual(cut_down(clash, lot("a"), lot("b")), lot("a"))
        self.assertEqual(built_up(clash, lot("a"), lot("b")), lot("b"))

    def test_the_least_middles_where_all_is_bendable(self):
        for services, rules in helper.bendable_books(54, 40):
            book = Rulebook(services, rules)
            for a in book.states():
                for b in book.states():
                    lower = least_between(book, helper.meet(a, b), a)
                    self.assertEqual(helper.least(middles(book, a, b)), lower)

    def test_errors(self):
        book = Rulebook(lot("abcd"), [("imply", ["a"], ["b"])])
        for ask in (middles, upper_middles, cut_down, built_up):
            for odd in helper.ODD_VALUES + (Weird(), ["a"], lot("ae")):
                self.assertEqual(raised(ask, book, odd, lot("a")), (InvalidState, 0), repr(odd))
                self.assertEqual(raised(ask, book, lot("a"), odd), (InvalidState, 1), repr(odd))
            self.assertEqual(raised(ask, book, (), lot("a")), (NotAllowed, 1))
            self.assertEqual(raised(ask, book, lot("ac"), lot("a")), (NotAllowed, 0))
            self.assertIsNone(raised(ask, book=book, second=(), first=lot("ab")))


if __name__ == "__main__":
    unittest.main()
