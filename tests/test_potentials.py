"""[64]: potentials, and evidence that a plan is a cheapest one, or that there is none."""

import itertools
import random
import unittest

from stopsfirst.cheapest import cheapest_plan, least_price, least_prices
from stopsfirst.potentials import cheapest_evidence, is_cheapest_evidence, is_plain_potential, is_potential
from stopsfirst.prices import Prices
from stopsfirst.rulebooks import Rulebook
from tests import helper
from tests.helper import Weird, fits, lot, lots, minus, part
from tests.test_cheapest import BOOKS, CLASH, FREE, check_batches_then_states, markets, single_markets
from tests.test_prices import change_by_words, plan_by_words


def holds(states, batches, prices, start, value, plain):
    """What [64] says of a tuple of pairs (state, integer), word by word."""
    told = dict(value)
    if [state for state, _ in value] != sorted(told) or told.get(start) != 0:
        return False
    for a in told:
        if a not in states:
            return False
        for b in states:
            if b != a and fits(batches, minus(b, a)) and (not plain or part(a, b) or part(b, a)):
                if b not in told or told[b] > told[a] + change_by_words(prices, a, b):
                    return False
    return True


def least_plain(states, batches, prices, start):
    """The least prices of plans by plain changes, put right until they stay."""
    told = {start: 0}
    while True:
        before = dict(told)
        for a, b in itertools.product(list(told), states):
            if fits(batches, minus(b, a)) and (part(a, b) or part(b, a)):
                price = told[a] + change_by_words(prices, a, b)
                told[b] = min(price, told.get(b, price))
        if told == before:
            return tuple(sorted(told.items()))


class PotentialTest(unittest.TestCase):
    def variants(self, chance, states, value):
        """The value itself, and some that differ from it in one or more places."""
        yield value
        yield value[1:]
        yield value[:-1]
        yield value[::-1]
        yield value + value[-1:]
        for _ in range(6):
            rows = [(state, number + chance.choice((0, 0, 0, -1, 1))) for state, number in value]
            yield tuple(rows)
            more = [state for state in states if state not in dict(value)]
            if more:
                yield tuple(sorted([*value, (chance.choice(more), chance.randrange(-3, 4))]))
        yield tuple((state, number - 1 if number else 0) for state, number in value)

    def test_by_words(self):
        chance = random.Random(651)
        found = set()
        for book, states, batches, prices, start, _ in [*markets(BOOKS, 652, 6), *single_markets(BOOKS, 653, 4)]:
            for value in (least_prices(book, batches, prices, start), least_plain(states, batches, prices, start)):
                for told in self.variants(chance, states, value):
                    right = holds(states, batches, prices, start, told, False)
                    self.assertIs(is_potential(book, batches, prices, start, told), right)
                    plain = holds(states, batches, prices, start, told, True)
                    self.assertIs(is_plain_potential(book, batches, prices, start, told), plain)
                    found.add((right, plain))
        self.assertEqual(found, {(True, True), (False, True), (False, False)})

    def test_least_prices_are_potentials(self):
        for book, states, batches, prices, start, _ in markets(BOOKS, 654, 5):
            self.assertIs(is_potential(book, batches, prices, start, least_prices(book, batches, prices, start)), True)
            value = least_plain(states, batches, prices, start)
            self.assertIs(is_plain_potential(book, batches, prices, start, value), True)

    def test_spoilt_values(self):
        prices = Prices([("a", 1), ("b", 2)], [("a", 1)])
        ask = (FREE, lots("a b"), prices, ())
        good = (((), 0), (lot("a"), 1), (lot("ab"), 3), (lot("b"), 2))
        for tell in (is_potential, is_plain_potential):
            self.assertIs(tell(*ask, good), True)
            self.assertIs(tell(value=good, start=(), prices=prices, batches=lots("b a"), book=FREE), True)
            self.assertIs(tell(*ask, (((), 0), (lot("a"), -5), (lot("ab"), -3), (lot("b"), 1))), False)
            self.assertIs(tell(*ask, (((), 0), (lot("a"), 0), (lot("ab"), 0), (lot("b"), 0))), True)
            for odd in helper.ODD_VALUES + (Weird(), (Weird(),), (), ((), 0), good[0], good[:3], list(good), good[::-1],
                                            good[1:], good + good[:1], tuple([list(row) for row in good])):
                self.assertIs(tell(*ask, odd), False, repr(odd))
                self.assertIs(tell(*ask, good + (odd,)), False, repr(odd))
                self.assertIs(tell(*ask, (odd,) + good[1:]), helper.is_same(odd, good[0]), repr(odd))
                self.assertIs(tell(*ask, good[:3] + ((odd, 2),)), False, repr(odd))
                if odd.__class__ is not int:
                    self.assertIs(tell(*ask, good[:3] + ((lot("b"), odd),)), False, repr(odd))
                    self.assertIs(tell(*ask, (((), odd),) + good[1:]), False, repr(odd))
            self.assertIs(tell(*ask, (((), 0), (lot("a"), True), (lot("ab"), 3), (lot("b"), 2))), False)
        self.assertIs(is_potential(CLASH, (), prices, lot("a"), (((), 0), (lot("a"), 0), (lot("ab"), 0))), False)

    def test_plain_changes_alone(self):
        prices = Prices([("a", 1), ("b", 1)], (), waits=[("a", 1)])
        value = (((), 0), (lot("a"), 0), (lot("b"), 1))
        torn = Rulebook(lot("ab"), [("imply", lot("ab"), ())])
        self.assertIs(is_plain_potential(torn, None, Prices([("b", 1)], ()), lot("a"), value), True)
        self.assertIs(is_potential(torn, None, Prices([("b", 1)], ()), lot("a"), value), True)
        only = Rulebook(lot("ab"), [("table", lot("ab"), lots("a b"))])
        self.assertIs(is_plain_potential(only, None, prices, lot("a"), ((lot("a"), 0),)), True)
        self.assertIs(is_potential(only, None, prices, lot("a"), ((lot("a"), 0),)), False)


class EvidenceTest(unittest.TestCase):
    def by_words(self, states, batches, prices, start, goal, value):
        plan, potential = value
        if not holds(states, batches, prices, start, potential, False):
            return False
        if plan is None:
            return goal not in dict(potential)
        if not plan or plan[0] != start or plan[-1] != goal or any(state not in states for state in plan):
            return False
        if not all(fits(batches, minus(b, a)) for a, b in zip(plan, plan[1:])):
            return False
        return plan_by_words(prices, plan) == dict(potential)[goal]

    def test_evidence(self):
        found = set()
        chance = random.Random(655)
        for book, states, batches, prices, start, goal in [*markets(BOOKS, 656, 6), *single_markets(BOOKS, 657, 6)]:
            told = cheapest_evidence(book, batches, prices, start, goal)
            self.assertEqual(told, (cheapest_plan(book, batches, prices, start, goal),
                                    least_prices(book, batches, prices, start)))
            self.assertIs(is_cheapest_evidence(book, batches, prices, start, goal, told), True)
            plans = [None, (start,), (start, goal), (), (goal,)]
            plans += [(start, *[chance.choice(states) for _ in range(chance.randrange(3))], goal) for _ in range(6)]
            zero = tuple((state, 0 if state == start else number - 1) for state, number in told[1])
            for plan in plans:
                for potential in (told[1], zero):
                    right = self.by_words(states, batches, prices, start, goal, (plan, potential))
                    answer = is_cheapest_evidence(book, batches, prices, start, goal, (plan, potential))
                    self.assertIs(answer, right)
                    found.add((plan is None, right))
                    if right:
                        least = least_price(book, batches, prices, start, goal)
                        self.assertEqual(plan and prices.of_plan(plan), least)
        self.assertEqual(len(found), 4)

    def test_spoilt_values(self):
        prices = Prices([("a", 1), ("b", 2)], [("a", 1)])
        ask = (FREE, lots("a b"), prices, (), lot("b"))
        plan, potential = cheapest_evidence(*ask)
        self.assertEqual((plan, dict(potential)[lot("b")]), (lots("- b"), 2))
        good = (plan, potential)
        self.assertIs(is_cheapest_evidence(*ask, good), True)
        self.assertIs(is_cheapest_evidence(*ask, (lots("- - b b"), potential)), True)
        self.assertIs(is_cheapest_evidence(value=good, goal=lot("b"), start=(), prices=prices, batches=lots("a b"),
                                           book=FREE), True)
        for odd in helper.ODD_VALUES + (Weird(), (Weird(),), (), plan, potential):
            self.assertIs(is_cheapest_evidence(*ask, odd), False, repr(odd))
            self.assertIs(is_cheapest_evidence(*ask, good + (odd,)), False, repr(odd))
            if odd != plan or isinstance(odd, Weird):
                self.assertIs(is_cheapest_evidence(*ask, (odd, potential)), False, repr(odd))
            if odd != potential or isinstance(odd, Weird):
                self.assertIs(is_cheapest_evidence(*ask, (plan, odd)), False, repr(odd))
            self.assertIs(is_cheapest_evidence(*ask, (((), odd, lot("b")), potential)), odd == ()
                          and not isinstance(odd, Weird), repr(odd))
        for value in (list(good), (list(plan), potential), (plan, list(potential)), (None, potential), (plan[:1], potential)):
            self.assertIs(is_cheapest_evidence(*ask, value), False)
        self.assertIs(is_cheapest_evidence(FREE, [], prices, (), lot("b"), (None, (((), 0),))), True)
        self.assertIs(is_cheapest_evidence(FREE, [], prices, (), lot("b"), (None, ())), False)


class ErrorTest(unittest.TestCase):
    def test_batches_then_states(self):
        prices = Prices((), ())
        for ask in (is_potential, is_plain_potential):
            check_batches_then_states(self, lambda batches, start, ask=ask: ask(CLASH, batches, prices, start, None), 1)
        check_batches_then_states(self, lambda *more: cheapest_evidence(CLASH, more[0], prices, *more[1:]), 2)
        check_batches_then_states(self, lambda *more: is_cheapest_evidence(CLASH, more[0], prices, *more[1:], None), 2)


if __name__ == "__main__":
    unittest.main()
