"""[67]: prices by which one plan costs more than another one."""

import itertools
import random
import unittest

from stopsfirst.bending import bend
from stopsfirst.dearer import dearer_prices
from stopsfirst.errors import InvalidPlan, InvalidQuestion
from stopsfirst.merging import short_plan
from stopsfirst.prices import Prices
from stopsfirst.rulebooks import Rulebook
from tests import helper
from tests.helper import Weird, lot, lots, minus, raised
from tests.test_prices import plan_by_words, random_prices

FREE = Rulebook(lot("abc"), [])
CLASH = Rulebook(lot("abc"), [("imply", lot("ab"), ())])
BENDABLE = helper.bendable_books(671, 30)


def by_words(services, one, other):
    doing = [sum(a != b for a, b in zip(plan, plan[1:])) for plan in (one, other)]
    if doing[0] > doing[1]:
        return Prices((), (), fee=1)
    for many in range(1, len(services) + 1):
        for told in itertools.combinations(sorted(services), many):
            hits = [sum(bool(set(minus(b, a)) & set(told)) for a, b in zip(plan, plan[1:])) for plan in (one, other)]
            if hits[0] > hits[1]:
                return Prices((), (), waits=[(name, 1) for name in told])
    return None


class DearerTest(unittest.TestCase):
    def pairs(self, seed):
        chance = random.Random(seed)
        states = helper.all_lots("abc")
        for _ in range(500):
            start, goal = chance.choice(states), chance.choice(states)
            yield [(start, *[chance.choice(states) for _ in range(chance.randrange(5))], goal) for _ in range(2)]

    def test_by_words(self):
        found = set()
        for one, other in self.pairs(672):
            told = dearer_prices(FREE, one, list(other))
            self.assertEqual(told, by_words("abc", one, other))
            if told is not None:
                self.assertGreater(plan_by_words(told, one), plan_by_words(told, other))
                self.assertEqual((told.starts, told.stops), ((), ()))
            found.add(None if told is None else (told.fee, len(told.waits)))
        self.assertLessEqual({None, (1, 0), (0, 1), (0, 2)}, found)

    def test_with_none_it_costs_no_more(self):
        chance = random.Random(673)
        seen = 0
        for one, other in self.pairs(674):
            if dearer_prices(FREE, one, other) is None:
                for prices in random_prices(chance.random(), "abc", 5):
                    self.assertLessEqual(prices.of_plan(one), prices.of_plan(other))
                seen += 1
        self.assertGreater(seen, 20)

    def test_short_plans(self):
        for services, rules in BENDABLE:
            book = Rulebook(services, rules)
            for plan in helper.random_plans(675, list(book.states()), 6):
                self.assertIsNone(dearer_prices(book, short_plan(bend(book, plan)), plan))

    def test_by_hand(self):
        self.assertEqual(dearer_prices(FREE, lots("- a ab"), lots("- ab")), Prices((), (), fee=1))
        self.assertIsNone(dearer_prices(FREE, lots("- ab"), lots("- a ab")))
        self.assertIsNone(dearer_prices(other=lots("- - ab"), one=lots("- ab ab"), book=FREE))
        self.assertIsNone(dearer_prices(FREE, lots("a - a"), lots("a b a")))
        self.assertIsNone(dearer_prices(FREE, lots("c - b"), lots("c bc b")))
        self.assertIsNone(dearer_prices(FREE, lots("- a ab"), lots("- ab b ab")))
        self.assertEqual(dearer_prices(FREE, lots("a - a"), lots("a ab a")), Prices((), (), waits=[("a", 1)]))
        self.assertEqual(dearer_prices(FREE, lots("- a ab"), lots("- ab abc ab")),
                         Prices((), (), waits=[("a", 1), ("b", 1)]))

    def test_errors(self):
        for odd in (None, [], "a", {(): 1}, [lot("z")], [["a"]], lots("ab"), Weird(), 5):
            self.assertEqual(raised(dearer_prices, CLASH, odd, odd), (InvalidPlan, 0), repr(odd))
            self.assertEqual(raised(dearer_prices, CLASH, lots("a -"), odd), (InvalidPlan, 0), repr(odd))
        self.assertEqual(raised(dearer_prices, CLASH, lots("a - ab"), [()]), (InvalidPlan, 2))
        self.assertEqual(raised(dearer_prices, CLASH, lots("a -"), lots("b ab")), (InvalidPlan, 1))
        self.assertEqual(raised(dearer_prices, CLASH, lots("a -"), lots("b c")), (InvalidQuestion, 0))
        self.assertEqual(raised(dearer_prices, CLASH, lots("a -"), lots("a c")), (InvalidQuestion, 1))
        self.assertEqual(raised(dearer_prices, CLASH, lots("a -"), lots("b -")), (InvalidQuestion, 0))


if __name__ == "__main__":
    unittest.main()
