"""[61] and [62]: prices, and what changes and plans cost by them."""

import itertools
import random
import unittest

from stopsfirst.errors import InvalidPrices
from stopsfirst.prices import Prices
from stopsfirst.rulebooks import Rulebook
from tests import helper
from tests.helper import Weird, lot, lots, minus, raised


def random_lists(chance, services, fee=True, waits=True):
    """Starts, stops, a fee and waits that are right, in no order, with some names unlisted."""
    starts, stops = [], []
    for name in services:
        start = chance.randrange(-3, 5)
        if chance.random() < 0.8:
            starts.append([name, start])
            stops.append((name, chance.randrange(-start, 5 - start) if chance.random() < 0.7 else -start))
        elif chance.random() < 0.8:
            stops.append((name, chance.randrange(5)))
    chance.shuffle(starts)
    chance.shuffle(stops)
    wait = [(name, chance.randrange(4)) for name in services if chance.random() < 0.7]
    return starts, stops, chance.randrange(3) if fee else 0, wait if waits else []


def random_prices(seed, services, many, fee=True, waits=True):
    chance = random.Random(seed)
    found = []
    for _ in range(many):
        starts, stops, more, wait = random_lists(chance, services, fee, waits)
        found.append(Prices(starts, stops, fee=more, waits=wait))
    return found


def change_by_words(prices, one, other):
    """What a change costs, from the attributes alone."""
    if one == other:
        return 0
    starts, stops, waits = dict(prices.starts), dict(prices.stops), dict(prices.waits)
    started, stopped = minus(other, one), minus(one, other)
    return (prices.fee + sum(starts.get(name, 0) for name in started) + sum(stops.get(name, 0) for name in stopped)
            + max([waits.get(name, 0) for name in started] + [0]))


def plan_by_words(prices, plan):
    return sum(change_by_words(prices, a, b) for a, b in zip(plan, plan[1:]))


class PricesTest(unittest.TestCase):
    def test_attributes(self):
        chance = random.Random(611)
        for _ in range(200):
            starts, stops, fee, waits = random_lists(chance, "abcd")
            told = Prices(starts, tuple(stops), fee=fee, waits=tuple(waits))
            for kept, passed in ((told.starts, starts), (told.stops, stops), (told.waits, waits)):
                self.assertEqual(kept, tuple(sorted(tuple(pair) for pair in passed if pair[1] != 0)))
                self.assertTrue(all(type(pair) is tuple for pair in kept))
            self.assertEqual(told.fee, fee)
            for name in ("a", "b", "c", "d", "zz"):
                self.assertEqual(told.start_price(name), dict(starts).get(name, 0))
                self.assertEqual(told.stop_price(name=name), dict(stops).get(name, 0))
                self.assertEqual(told.wait_of(name), dict(waits).get(name, 0))

    def test_by_hand(self):
        told = Prices([["b", 2], ["a", 0]], [("b", -2)], waits=[["c", 0], ["a", 4]])
        self.assertEqual((told.starts, told.stops, told.waits, told.fee), ((("b", 2),), (("b", -2),), (("a", 4),), 0))
        self.assertEqual(Prices((), ()).starts, ())
        self.assertEqual(Prices(stops=(("x", 1),), starts=(("x", -1),), fee=3).stops, (("x", 1),))

    def test_equal_ones(self):
        one = Prices([("a", 1), ("b", 2)], [("a", 0)], fee=1, waits=[("c", 1)])
        self.assertTrue(one == Prices((("b", 2), ["a", 1]), (), fee=1, waits=(("c", 1), ("a", 0))))
        self.assertFalse(one != Prices((("b", 2), ["a", 1]), (), fee=1, waits=(("c", 1), ("a", 0))))
        for other in (Prices([("a", 1), ("b", 3)], (), fee=1, waits=[("c", 1)]), Prices([("a", 1), ("b", 2)], (), fee=1),
                      Prices([("a", 1), ("b", 2)], [("a", 1)], fee=1, waits=[("c", 1)]),
                      Prices([("a", 1), ("b", 2)], (), waits=[("c", 1)]), None, 1, (one.starts, one.stops),
                      Rulebook(lot("a"), [])):
            self.assertFalse(one == other)
            self.assertTrue(one != other)

    def test_changes(self):
        every = helper.all_lots("abc")
        for prices in random_prices(612, "abc", 60):
            for one, other in itertools.product(every, repeat=2):
                self.assertEqual(prices.of_change(one, other), change_by_words(prices, one, other))
            self.assertEqual(prices.of_change(other=lot("az"), one=lot("z")), change_by_words(prices, lot("z"), lot("az")))

    def test_plans(self):
        for prices in random_prices(613, "abc", 20):
            for plan in helper.random_plans(614, helper.all_lots("abc"), 10, 8):
                self.assertEqual(prices.of_plan(plan), plan_by_words(prices, plan))
                self.assertEqual(prices.of_plan(plan=list(plan)), plan_by_words(prices, plan))

    def test_changes_by_hand(self):
        prices = Prices([("a", 5), ("b", -1)], [("a", -5), ("b", 1)], fee=10, waits=[("a", 2), ("b", 3), ("c", 9)])
        self.assertEqual(prices.of_change((), ()), 0)
        self.assertEqual(prices.of_change((), lot("ab")), 10 + 5 - 1 + 3)
        self.assertEqual(prices.of_change(lot("ab"), ()), 10 - 5 + 1)
        self.assertEqual(prices.of_change(lot("c"), lot("b")), 10 - 1 + 3)
        self.assertEqual(prices.of_change(lot("z"), lot("y")), 10)
        self.assertEqual(prices.of_plan([()]), 0)
        self.assertEqual(prices.of_plan(lots("a a - a")), 10 - 5 + 10 + 5 + 2)


class MadeTest(unittest.TestCase):
    def test_round_trips(self):
        for prices in random_prices(621, "abcd", 60):
            told = prices.round_trips()
            self.assertIsInstance(told, Prices)
            self.assertEqual((told.stops, told.fee, told.waits), ((), prices.fee, prices.waits))
            for name in "abcde":
                self.assertEqual(told.start_price(name), prices.start_price(name) + prices.stop_price(name))
            self.assertTrue(all(number > 0 for _, number in told.starts))
            for plan in helper.random_plans(622, helper.all_lots("abcd"), 8):
                ends = [sum(prices.stop_price(name) for name in state) for state in (plan[0], plan[-1])]
                self.assertEqual(prices.of_plan(plan), told.of_plan(plan) + ends[0] - ends[1])

    def test_shifted(self):
        chance = random.Random(623)
        for prices in random_prices(624, "abcd", 60):
            name, by = chance.choice("abcde"), chance.randrange(-9, 10)
            told = prices.shifted(name, by)
            self.assertEqual((told.fee, told.waits), (prices.fee, prices.waits))
            for other in "abcdez":
                more = by if other == name else 0
                self.assertEqual(told.start_price(other), prices.start_price(other) + more)
                self.assertEqual(told.stop_price(other), prices.stop_price(other) - more)
            self.assertEqual(told.shifted(by=-by, name=name), prices)
            self.assertTrue(all(number for _, number in told.starts + told.stops))

    def test_greater_than_the_limit(self):
        prices = Prices([("a", 1000000)], [("a", 1000000), ("b", 1000000)])
        self.assertEqual(prices.round_trips().starts, (("a", 2000000), ("b", 1000000)))
        self.assertEqual(prices.shifted("b", 1000000).shifted("b", 1000000).starts, (("a", 1000000), ("b", 2000000)))


class WrongTest(unittest.TestCase):
    def test_odd_values(self):
        for odd in helper.ODD_VALUES + (Weird(), (Weird(),), [Weird()]):
            if odd.__class__ is Weird or odd not in ([], ()):
                self.assertEqual(raised(Prices, odd, odd, fee=odd, waits=odd), (InvalidPrices, 0), repr(odd))
                self.assertEqual(raised(Prices, (), odd, fee=odd, waits=odd), (InvalidPrices, 1), repr(odd))
                self.assertEqual(raised(Prices, (), (), waits=odd), (InvalidPrices, 4), repr(odd))
            if odd.__class__ is not int or odd < 0:
                self.assertEqual(raised(Prices, (), (), fee=odd, waits=5), (InvalidPrices, 3), repr(odd))
                self.assertEqual(raised(Prices, (), (), waits=[("a", odd)]), (InvalidPrices, 4), repr(odd))
            if odd.__class__ is not int:
                self.assertEqual(raised(Prices, [("a", odd)], ()), (InvalidPrices, 0), repr(odd))
                self.assertEqual(raised(Prices, (), [("a", odd)]), (InvalidPrices, 1), repr(odd))
            if odd.__class__ is not str or odd in ("", "-"):
                self.assertEqual(raised(Prices, [(odd, 1)], ()), (InvalidPrices, 0), repr(odd))
                self.assertEqual(raised(Prices, (), [("a", 1), (odd, 1)]), (InvalidPrices, 1), repr(odd))
                self.assertEqual(raised(Prices, (), (), waits=[(odd, 1)]), (InvalidPrices, 4), repr(odd))

    def test_names_twice(self):
        for pairs in ([("a", 1), ("a", 1)], [("a", 0), ("a", 0)], [("b", 1), ("a", 2), ["b", 3]]):
            self.assertEqual(raised(Prices, pairs, 5, fee=-1), (InvalidPrices, 0))
            self.assertEqual(raised(Prices, (), pairs, fee=-1), (InvalidPrices, 1))
            self.assertEqual(raised(Prices, (), (), waits=pairs), (InvalidPrices, 4))

    def test_forms_of_pairs(self):
        for pair in (("a",), ("a", 1, 2), "a1", {"a": 1}, ("abcdef", 1), ("A", 1), ("", 1), ("a", 1.0), ("a", True)):
            self.assertEqual(raised(Prices, [pair], ()), (InvalidPrices, 0))
            self.assertEqual(raised(Prices, (), [pair]), (InvalidPrices, 1))
            self.assertEqual(raised(Prices, (), (), waits=[pair]), (InvalidPrices, 4))
        self.assertIsNone(raised(Prices, [["abcde", -1]], [["abcde", 1]]))

    def test_sums_below_zero(self):
        self.assertEqual(raised(Prices, [("a", 1)], [("a", -2)], fee=-1, waits=5), (InvalidPrices, 2))
        self.assertEqual(raised(Prices, [("a", -1)], [("b", 1)]), (InvalidPrices, 2))
        self.assertEqual(raised(Prices, [], [("b", -1)]), (InvalidPrices, 2))
        self.assertEqual(raised(Prices, [("b", -1)], [], waits=[("b", 5)]), (InvalidPrices, 2))
        self.assertEqual(raised(Prices, [("a", -1)], [("a", -1), ("a", 3)]), (InvalidPrices, 1))
        self.assertIsNone(raised(Prices, [("a", -2)], [("a", 2)]))

    def test_which_comes_first(self):
        for wrong in itertools.product((False, True), repeat=5):
            starts = [("a", -1)] + [("b", None)] * wrong[0]
            stops = [("a", 0 if wrong[2] else 1)] + [("c", None)] * wrong[1]
            told = raised(Prices, starts, stops, fee=-1 if wrong[3] else 1, waits=[("a", -1 if wrong[4] else 1)])
            first = [at for at in range(5) if wrong[at]]
            self.assertEqual(told, (InvalidPrices, first[0]) if first else None)

    def test_keywords_alone(self):
        with self.assertRaises(TypeError):
            Prices((), (), 1)


if __name__ == "__main__":
    unittest.main()
