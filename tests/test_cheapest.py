"""[63] and [66]: plans that cost as little as possible."""

import itertools
import random
import unittest

from stopsfirst.cheapest import (
    cheapest_merged, cheapest_plan, cheapest_three_part, least_price, least_prices, tight_changes,
)
from stopsfirst.court import is_bendable, least_bad_pair
from stopsfirst.errors import InvalidBatches, InvalidState, NotAllowed
from stopsfirst.plans import wrong_change
from stopsfirst.prices import Prices
from stopsfirst.rulebooks import Rulebook
from stopsfirst.splitting import false_potential
from tests import helper
from tests.helper import Weird, fits, lot, lots, minus, part, raised
from tests.test_prices import change_by_words, plan_by_words, random_prices

FREE = Rulebook(lot("ab"), [])
CLASH = Rulebook(lot("abc"), [("imply", lot("ab"), ())])
TORN = Rulebook(lot("ab"), [("table", lot("ab"), lots("a b"))])
BOOKS = [told for told in helper.random_books(631, 70, "abc") if 0 < len(helper.allowed(*told)) < 8]
BENDABLE = helper.bendable_books(632, 40, "abc")


def markets(books, seed, many, fee=True, waits=True):
    """Rulebooks with their states, batches, prices, and two states."""
    chance = random.Random(seed)
    for services, rules in books:
        states = helper.allowed(services, rules)
        for batches in helper.random_batches(chance.random(), services, many):
            prices = random_prices(chance.random(), services, 1, fee, waits)[0]
            yield Rulebook(services, rules), states, batches, prices, chance.choice(states), chance.choice(states)


def single_markets(books, seed, many):
    """The same with batches of one service and prices of few different numbers: many plans cost the same."""
    chance = random.Random(seed)
    for services, rules in books:
        states = helper.allowed(services, rules)
        for _ in range(many):
            starts = [(name, chance.choice((0, 1))) for name in services]
            prices = Prices(starts, [(name, -number) for name, number in starts] if chance.random() < 0.5 else (),
                            fee=chance.choice((0, 1)), waits=[(name, 1) for name in services if chance.random() < 0.3])
            ones = tuple((name,) for name in services)
            yield Rulebook(services, rules), states, ones, prices, chance.choice(states), chance.choice(states)


def simple_plans(states, batches, start):
    """All plans from a state that come to no state twice; a cheapest one with the fewest changes is among them."""
    found = []
    plans = [(start,)]
    while plans:
        found.extend(plans)
        plans = [plan + (state,) for plan in plans for state in states
                 if state not in plan and fits(batches, minus(state, plan[-1]))]
    return found


def first_cheapest(prices, plans, goal):
    there = [(plan_by_words(prices, plan), len(plan), plan) for plan in plans if plan[-1] == goal]
    return min(there)[2] if there else None


def stops_at_the_ends(plan):
    return all(part(plan[at], plan[at + 1]) for at in range(1, len(plan) - 2))


def is_plain(plan):
    return all(part(a, b) or part(b, a) for a, b in zip(plan, plan[1:]))


class CheapestTest(unittest.TestCase):
    def test_by_words(self):
        found = set()
        free = Rulebook(lot("abc"), [])
        far = [(free, list(free.states()), lots("a b c"), prices, (), goal)
               for prices in random_prices(646, "abc", 2) for goal in lots("abc ab bc")]
        for book, states, batches, prices, start, goal in [*markets(BOOKS, 633, 8), *single_markets(BOOKS, 634, 6), *far]:
            plans = simple_plans(states, batches, start)
            least = {state: min(plan_by_words(prices, plan) for plan in plans if plan[-1] == state)
                     for state in {plan[-1] for plan in plans}}
            self.assertEqual(least_prices(book, batches, prices, start), tuple(sorted(least.items())))
            self.assertEqual(least_price(book, batches, prices, start, goal), least.get(goal))
            plan = cheapest_plan(book, batches, prices, start, goal)
            self.assertEqual(plan, first_cheapest(prices, plans, goal))
            found.add(plan and len(plan))
        self.assertLessEqual({None, 1, 2, 3, 4}, found)

    def test_by_hand(self):
        prices = Prices([("a", 3), ("b", 1)], [("a", -1)], fee=1, waits=[("b", 2)])
        self.assertEqual(least_prices(FREE, None, prices, ()), (((), 0), (lot("a"), 4), (lot("ab"), 7), (lot("b"), 4)))
        self.assertEqual(least_price(goal=(), start=lot("a"), prices=prices, batches=[], book=FREE), 0)
        self.assertEqual(least_price(FREE, [], prices, lot("ab"), ()), 0)
        self.assertIsNone(least_price(FREE, [], prices, (), lot("a")))
        self.assertIsNone(cheapest_plan(FREE, [], prices, (), lot("a")))
        self.assertEqual(cheapest_plan(goal=(), start=(), prices=prices, batches=[], book=FREE), lots("-"))
        self.assertEqual(least_price(FREE, [], prices, (), ()), 0)
        self.assertEqual(cheapest_plan(FREE, lots("a b"), Prices((), ()), (), lot("ab")), lots("- a ab"))
        self.assertEqual(cheapest_plan(FREE, lots("a b"), Prices((), (), waits=[("a", 1)]), lot("a"), lot("b")), lots("a b"))

    def test_prices_that_cancel(self):
        """No fee, and starting earns what stopping costs: going around is free, so more changes are tight."""
        prices = Prices([("a", -2), ("b", 1)], [("a", 2), ("b", -1)])
        self.assertEqual(least_prices(FREE, None, prices, lot("a")), (((), 2), (lot("a"), 0), (lot("ab"), 1), (lot("b"), 3)))
        every = tuple(itertools.permutations(lots("- a ab b"), 2))
        self.assertEqual(tight_changes(FREE, None, prices, lot("a"), lot("a")), tuple(sorted(every)))
        self.assertEqual(cheapest_plan(FREE, None, prices, lot("a"), lot("a")), lots("a"))
        self.assertEqual(tight_changes(FREE, [], prices, lot("a"), ()), ((lot("a"), ()),))


class TightTest(unittest.TestCase):
    def by_words(self, states, batches, prices, start, goal):
        least = {}
        for state in states:
            for plan in simple_plans(states, batches, state):
                told = plan_by_words(prices, plan)
                least[state, plan[-1]] = min(told, least.get((state, plan[-1]), told))
        pairs = []
        for a, b in itertools.permutations(states, 2):
            if fits(batches, minus(b, a)) and (start, a) in least and (b, goal) in least:
                price = least[start, a] + change_by_words(prices, a, b) + least[b, goal]
                if price == least[start, goal]:
                    pairs.append((a, b))
        return tuple(sorted(pairs))

    def test_by_words(self):
        lengths = set()
        for book, states, batches, prices, start, goal in [*markets(BOOKS[::2], 635, 5), *single_markets(BOOKS[::2], 636, 5)]:
            told = tight_changes(book, batches, prices, start, goal)
            self.assertEqual(told, self.by_words(states, batches, prices, start, goal))
            lengths.add(min(len(told), 4))
        self.assertEqual(lengths, {0, 1, 2, 3, 4})

    def test_plans_are_cheapest_exactly_if_all_changes_are_tight(self):
        chance = random.Random(637)
        found = set()
        for book, states, batches, prices, start, goal in [*markets(BOOKS, 638, 5), *single_markets(BOOKS, 639, 5)]:
            least = least_price(book, batches, prices, start, goal)
            tight = tight_changes(book, batches, prices, start, goal)
            for _ in range(20):
                plan = (start, *[chance.choice(states) for _ in range(chance.randrange(4))], goal)
                if wrong_change(book, plan, batches) is None:
                    right = all(a == b or (a, b) in tight for a, b in zip(plan, plan[1:]))
                    self.assertIs(prices.of_plan(plan) == least, right)
                    found.add(right)
        self.assertEqual(found, {True, False})

    def test_by_hand(self):
        prices = Prices([("a", 1), ("b", 1)], ())
        self.assertEqual(tight_changes(goal=lot("ab"), start=(), prices=prices, batches=lots("a b"), book=FREE),
                         (((), lot("a")), ((), lot("b")), (lot("a"), lot("ab")), (lot("b"), lot("ab"))))
        self.assertEqual(tight_changes(FREE, None, Prices((), (), fee=1), (), lot("ab")), (((), lot("ab")),))
        self.assertEqual(tight_changes(FREE, [], prices, (), lot("ab")), ())
        self.assertEqual(tight_changes(FREE, None, prices, (), ()), ())


class BentTest(unittest.TestCase):
    def test_by_words(self):
        found = set()
        for book, states, batches, prices, start, goal in [*markets(BOOKS, 641, 8), *single_markets(BOOKS, 642, 8)]:
            plans = [plan for plan in simple_plans(states, batches, start) if stops_at_the_ends(plan)]
            merged = cheapest_merged(book, batches, prices, start, goal)
            self.assertEqual(merged, first_cheapest(prices, plans, goal))
            three = cheapest_three_part(book, batches, prices, start, goal)
            self.assertEqual(three, first_cheapest(prices, [plan for plan in plans if is_plain(plan)], goal))
            found |= {("merged", merged and len(merged)), ("three", three and len(three))}
        self.assertLessEqual({("merged", many) for many in (None, 1, 2, 3)}, found)
        self.assertLessEqual({("three", many) for many in (None, 1, 2, 3, 4)}, found)

    def test_longer_ones(self):
        """With four services and batches of one, where the way up is long."""
        for rules in ([], [("imply", lot("ab"), ())], [("cap", [(name, 1) for name in "abcd"], 3)]):
            book = Rulebook(lot("abcd"), rules)
            ones = lots("a b c d")
            for prices in random_prices(643, "abcd", 6):
                for start, goal in itertools.product(book.states()[::3], repeat=2):
                    for ask in (cheapest_merged, cheapest_three_part):
                        plan = ask(book, ones, prices, start, goal)
                        self.assertEqual((plan[0], plan[-1]), (start, goal))
                        self.assertIsNone(wrong_change(book, plan, ones))
                        self.assertTrue(stops_at_the_ends(plan))
                        self.assertEqual(len(set(zip(plan, plan[1:]))), len(plan) - 1)
                    self.assertTrue(is_plain(cheapest_three_part(book, ones, prices, start, goal)))

    def test_bendable_rulebooks(self):
        """With any prices the merged plan, without a fee the three-part plan costs no more than the cheapest one."""
        for book, _, batches, prices, start, goal in markets(BENDABLE, 644, 8):
            least = least_price(book, batches, prices, start, goal)
            plan = cheapest_merged(book, batches, prices, start, goal)
            self.assertEqual(plan and prices.of_plan(plan), least)
        for book, _, batches, prices, start, goal in markets(BENDABLE, 645, 8, fee=False):
            least = least_price(book, batches, prices, start, goal)
            plan = cheapest_three_part(book, batches, prices, start, goal)
            self.assertEqual(plan and prices.of_plan(plan), least)

    def test_other_rulebooks(self):
        seen = 0
        for services, rules in BOOKS + helper.random_books(647, 30):
            book = Rulebook(services, rules)
            if not is_bendable(book):
                start, goal = least_bad_pair(book)
                _, prices, _, _ = false_potential(book, with_waits=True)
                batches = [minus(goal, start)]
                plan = cheapest_three_part(book, batches, prices, start, goal)
                least = least_price(book, batches, prices, start, goal)
                self.assertNotEqual(plan and prices.of_plan(plan), least)
                seen += 1
        self.assertGreater(seen, 10)

    def test_by_hand(self):
        prices = Prices([("a", 1), ("b", 2)], [("a", 1)], fee=1)
        self.assertEqual(cheapest_merged(CLASH, None, prices, lot("a"), lot("b")), lots("a b"))
        self.assertEqual(cheapest_three_part(CLASH, None, prices, lot("a"), lot("b")), lots("a - b"))
        self.assertEqual(cheapest_three_part(goal=lot("c"), start=lot("c"), prices=prices, batches=[], book=CLASH), lots("c"))
        self.assertEqual(cheapest_merged(goal=lot("c"), start=lot("c"), prices=prices, batches=[], book=CLASH), lots("c"))
        self.assertIsNone(cheapest_three_part(TORN, None, prices, lot("a"), lot("b")))
        self.assertEqual(cheapest_merged(TORN, None, prices, lot("a"), lot("b")), lots("a b"))
        self.assertIsNone(cheapest_merged(TORN, [], prices, lot("a"), lot("b")))


class ErrorTest(unittest.TestCase):
    def asks(self):
        prices = Prices((), ())
        yield 1, lambda batches, start: least_prices(CLASH, batches, prices, start)
        for ask in (least_price, cheapest_plan, tight_changes, cheapest_three_part, cheapest_merged):
            yield 2, lambda batches, start, goal, ask=ask: ask(CLASH, batches, prices, start, goal)

    def test_batches_then_states(self):
        for many, ask in self.asks():
            check_batches_then_states(self, ask, many)


def check_batches_then_states(test, ask, many):
    """The errors of chapters 9 and 10, for a function of batches and one or two states of CLASH."""
    for odd in helper.ODD_VALUES + (["a"], lot("az"), Weird(), (Weird(),)):
        test.assertEqual(raised(ask, [(), odd], *[odd] * many), (InvalidBatches, 1), repr(odd))
        test.assertEqual(raised(ask, (), *[odd] * many), (InvalidState, 0), repr(odd))
        if many == 2:
            test.assertEqual(raised(ask, (), lot("ab"), odd), (InvalidState, 1), repr(odd))
    for value in (True, 0, "ab", {()}, Weird()):
        test.assertEqual(raised(ask, value, *[None] * many), (InvalidBatches, 0))
    test.assertEqual(raised(ask, None, *[lot("ab")] * many), (NotAllowed, 0))
    if many == 2:
        test.assertEqual(raised(ask, None, lot("a"), lot("ab")), (NotAllowed, 1))


if __name__ == "__main__":
    unittest.main()
