"""[65]: whether each change can be split into changes that only stop or only start."""

import itertools
import random
import unittest

from stopsfirst.court import is_bendable
from stopsfirst.errors import InvalidState, NotAllowed
from stopsfirst.potentials import is_plain_potential, is_potential
from stopsfirst.prices import Prices
from stopsfirst.rulebooks import Rulebook
from stopsfirst.splitting import false_potential, split_plan, unsplit_pair
from tests import helper
from tests.helper import Weird, lot, lots, minus, part, raised
from tests.test_potentials import holds, least_plain
from tests.test_prices import random_prices

TORN = Rulebook(lot("ab"), [("table", lot("ab"), lots("a b"))])
CLASH = Rulebook(lot("abc"), [("imply", lot("ab"), ())])
# Each change can be split, but a and b only by starting d and e one after the other; so it is not bendable.
SLOW = Rulebook(lot("abde"), [("table", lot("abde"), lots("ab abd ad ade bde de bd"))])
BOOKS = [Rulebook(*told) for told in helper.random_books(661, 60) + helper.random_books(662, 60, "abc")
         if helper.allowed(*told)]


def split_by_words(states, one, other):
    """The first plan with the fewest changes, by making all plans longer, change by change."""
    plans = [(one,)]
    seen = {one}
    while plans:
        there = [plan for plan in plans if plan[-1] == other]
        if there:
            return min(there)
        longer = {}
        for plan in plans:
            a = plan[-1]
            for b in states:
                is_down = part(b, a) and part(minus(a, b), minus(one, other))
                is_up = part(a, b) and part(minus(b, a), minus(other, one))
                if b not in seen and (is_down or is_up):
                    longer[b] = min(longer.get(b, plan + (b,)), plan + (b,))
        seen |= set(longer)
        plans = sorted(longer.values())
    return None


class SplitTest(unittest.TestCase):
    def test_by_words(self):
        lengths = set()
        for book in BOOKS + [SLOW]:
            states = list(book.states())
            first = None
            for one, other in itertools.product(states, repeat=2):
                told = split_plan(book, one, other)
                self.assertEqual(told, split_by_words(states, one, other))
                first = first or ((one, other) if told is None else None)
                lengths.add(told and len(told))
            self.assertEqual(unsplit_pair(book), first)
        self.assertLessEqual({None, 1, 2, 3, 4}, lengths)

    def test_by_hand(self):
        self.assertEqual(split_plan(CLASH, lot("a"), lot("b")), lots("a - b"))
        self.assertEqual(split_plan(other=lot("abc"), one=lot("c"), book=Rulebook(lot("abc"), [])), lots("c abc"))
        self.assertEqual(split_plan(CLASH, lot("a"), lot("a")), lots("a"))
        self.assertIsNone(split_plan(TORN, lot("a"), lot("b")))
        self.assertEqual(unsplit_pair(TORN), lots("a b"))
        self.assertIsNone(unsplit_pair(book=CLASH))
        self.assertIsNone(unsplit_pair(Rulebook(lot("a"), [("imply", (), ())])))
        self.assertEqual(split_plan(SLOW, lot("ab"), lot("de")), lots("ab abd ad ade de"))

    def test_bendable_rulebooks_are_splittable(self):
        self.assertFalse(is_bendable(SLOW))
        self.assertIsNone(unsplit_pair(SLOW))
        for book in BOOKS:
            if is_bendable(book):
                self.assertIsNone(unsplit_pair(book))

    def test_errors(self):
        for odd in helper.ODD_VALUES + (["a"], lot("az"), Weird(), (Weird(),)):
            self.assertEqual(raised(split_plan, CLASH, odd, odd), (InvalidState, 0), repr(odd))
            self.assertEqual(raised(split_plan, CLASH, lot("ab"), odd), (InvalidState, 1), repr(odd))
        self.assertEqual(raised(split_plan, CLASH, lot("ab"), lot("ab")), (NotAllowed, 0))
        self.assertEqual(raised(split_plan, CLASH, lot("a"), lot("ab")), (NotAllowed, 1))


class FalsePotentialTest(unittest.TestCase):
    def check(self, book, told, with_waits):
        self.assertIs(type(told), tuple)
        batches, prices, start, value = told
        self.assertIsInstance(prices, Prices)
        self.assertIs(type(batches), tuple)
        self.assertEqual(prices.fee, 0)
        if not with_waits:
            self.assertEqual(prices.waits, ())
        states = list(book.states())
        self.assertTrue(holds(states, batches, prices, start, value, True))
        self.assertFalse(holds(states, batches, prices, start, value, False))
        self.assertIs(is_plain_potential(book, batches, prices, start, value), True)
        self.assertIs(is_potential(book, batches, prices, start, value), False)

    def test_by_words(self):
        found = set()
        for book in BOOKS + [SLOW]:
            told = false_potential(book)
            self.assertIs(told is None, unsplit_pair(book) is None)
            waiting = false_potential(book, with_waits=True)
            self.assertIs(waiting is None, is_bendable(book))
            found.add((told is None, waiting is None))
            if told is not None:
                self.check(book, told, False)
            if waiting is not None:
                self.check(book, waiting, True)
        self.assertEqual(found, {(True, True), (False, False), (True, False)})

    def test_all_families_of_three_services(self):
        every = helper.all_lots("abc")
        for chosen in range(256):
            states = [state for k, state in enumerate(every) if chosen >> k & 1]
            self.check_both(Rulebook(lot("abc"), helper.table_of("abc", states)))

    def test_families_of_four_services(self):
        chance = random.Random(664)
        for at in range(200):
            share = (0.3, 0.5, 0.7)[at % 3]
            states = [state for state in helper.all_lots("abcd") if chance.random() < share]
            self.check_both(Rulebook(lot("abcd"), helper.table_of("abcd", states)))

    def check_both(self, book):
        told = false_potential(book)
        self.assertIs(told is None, unsplit_pair(book) is None)
        waiting = false_potential(book, with_waits=True)
        self.assertIs(waiting is None, is_bendable(book))
        if told is not None:
            self.check(book, told, False)
        if waiting is not None:
            self.check(book, waiting, True)

    def test_where_there_is_none(self):
        """The facts: each plain potential is a potential, without waits, or in a bendable rulebook with them."""
        chance = random.Random(663)
        seen = set()
        for book in BOOKS[::2] + [SLOW]:
            states = list(book.states())
            for waits in (False, True):
                if (false_potential(book, with_waits=waits)) is not None:
                    continue
                for batches in helper.random_batches(chance.random(), book.services, 6):
                    prices = random_prices(chance.random(), book.services, 1, False, waits)[0]
                    start = chance.choice(states)
                    least = least_plain(states, batches, prices, start)
                    lower = tuple((state, 0 if state == start else number - chance.randrange(2))
                                  for state, number in least)
                    for value in (least, lower):
                        if is_plain_potential(book, batches, prices, start, value):
                            self.assertIs(is_potential(book, batches, prices, start, value), True)
                            seen.add((waits, value == least))
        self.assertLessEqual({(False, True), (True, True), (False, False)}, seen)

    def test_keywords_alone(self):
        with self.assertRaises(TypeError):
            false_potential(TORN, True)
        self.assertIsNone(false_potential(CLASH, with_waits=True))
        self.assertIsNone(false_potential(book=SLOW, with_waits=False))
        self.assertIsNotNone(false_potential(SLOW, with_waits=True)[1].waits)


if __name__ == "__main__":
    unittest.main()
