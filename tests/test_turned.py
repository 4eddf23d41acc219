"""[96] and [97]: turned services, free and batched moves, turned middles, and plans that go one way."""

import itertools
import random
import unittest

from stopsfirst.court import is_bendable, is_locked
from stopsfirst.errors import InvalidBatches, InvalidPlan, InvalidQuestion, InvalidState, NotAllowed, NotBendable
from stopsfirst.pairs import middles
from stopsfirst.plans import wrong_change
from stopsfirst.rulebooks import Rulebook
from stopsfirst.turned import (
    bends, one_way, sides, turned_book, turned_fault, turned_locked, turned_middles,
)
from tests import helper
from tests.helper import Weird, fits, join, lot, lots, meet, minus, part, raised

CLASH = Rulebook(lot("abc"), [("imply", lot("ab"), ())])
TORN = Rulebook(lot("ab"), [("table", lot("ab"), lots("a b"))])
ODD_STATES = helper.ODD_VALUES + (["a"], lot("az"), Weird(), (Weird(),))
BOOKS = helper.random_books(961, 24) + helper.bendable_books(962, 10)
SMALL = helper.random_books(963, 30, "abc")


def apart(a, b):
    """A ^ B: the services in just one of both."""
    return minus(join(a, b), meet(a, b))


def sides_by_words(turned, a, b):
    started, stopped = minus(b, a), minus(a, b)
    free = join(meet(started, turned), minus(stopped, turned))
    batched = join(meet(stopped, turned), minus(started, turned))
    return (free, batched)


def middles_by_words(states, turned, a, b):
    free, batched = sides_by_words(turned, a, b)
    return tuple(x for x in states if part(apart(x, a), free) and apart(x, batched) in states)


def is_locked_by_words(states, turned, a, b):
    free = sides_by_words(turned, a, b)[0]
    parts = [one for one in helper.all_lots(free) if one]
    return free != () and not any(apart(a, one) in states or apart(b, one) in states for one in parts)


def is_one_way(states, turned, plan, climb):
    """What [97] says of the tuple for a plan."""
    if len(climb) != len(plan) or any(c not in states for c in climb):
        return False
    for a, b in ((plan[0], climb[0]), (climb[-1], plan[-1])):
        if sides_by_words(turned, a, b)[1]:
            return False
    for at in range(1, len(plan)):
        free, batched = sides_by_words(turned, climb[at - 1], climb[at])
        if free or not part(batched, sides_by_words(turned, plan[at - 1], plan[at])[1]):
            return False
    return True


class SideTest(unittest.TestCase):
    def test_by_words(self):
        chance = random.Random(964)
        for services, rules in BOOKS:
            states = helper.allowed(services, rules)
            book = Rulebook(services, rules)
            for _ in range(30 if states else 0):
                turned = chance.choice(helper.all_lots(services))
                a, b = chance.choice(states), chance.choice(states)
                self.assertEqual(sides(book, turned, a, b), sides_by_words(turned, a, b))

    def test_faults(self):
        chance = random.Random(965)
        found = set()
        for services, rules in BOOKS:
            states = helper.allowed(services, rules)
            book = Rulebook(services, rules)
            for plan in helper.random_plans(966, states, 8) if states else ():
                turned = chance.choice(helper.all_lots(services))
                batches = chance.choice(helper.random_batches(chance.random(), services, 9))
                wrong = [at for at in range(len(plan) - 1)
                         if not fits(batches, sides_by_words(turned, plan[at], plan[at + 1])[1])]
                told = turned_fault(book, turned, plan, batches)
                self.assertEqual(told, wrong[0] if wrong else None)
                self.assertEqual(turned_fault(book, (), plan, batches), wrong_change(book, plan, batches))
                self.assertIsNone(turned_fault(book, turned, plan))
                found.add(told)
        self.assertLessEqual({None, 0, 1, 2}, found)

    def test_by_hand(self):
        self.assertEqual(sides(second=lot("bc"), first=lot("a"), turned=lot("b"), book=CLASH), lots("ab c"))
        self.assertEqual(sides(CLASH, (), lot("a"), lot("bc")), lots("a bc"))
        self.assertEqual(sides(CLASH, lot("abc"), lot("a"), lot("bc")), lots("bc a"))
        self.assertEqual(sides(CLASH, lot("a"), lot("a"), lot("a")), ((), ()))
        self.assertEqual(turned_fault(batches=(), plan=lots("a ac c"), turned=lot("ab"), book=CLASH), 0)
        self.assertEqual(turned_fault(CLASH, lot("abc"), lots("a ac c"), ()), 1)
        self.assertIsNone(turned_fault(CLASH, lot("abc"), lots("ac"), ()))

    def test_turned_books(self):
        for services, rules in BOOKS:
            states = helper.allowed(services, rules)
            for turned in helper.all_lots(services)[::3]:
                told = turned_book(Rulebook(services, rules), turned)
                right = sorted(apart(state, turned) for state in states)
                self.assertEqual(told, Rulebook(services, helper.table_of(services, right)))
        self.assertEqual(turned_book(turned=(), book=TORN), TORN)


class MiddleTest(unittest.TestCase):
    def test_by_words(self):
        seen = set()
        for services, rules in SMALL:
            states = helper.allowed(services, rules)
            book = Rulebook(services, rules)
            for turned in helper.all_lots(services):
                pairs = list(itertools.product(states, repeat=2))
                locked = [pair for pair in pairs if is_locked_by_words(states, turned, *pair)]
                self.assertEqual(turned_locked(book, turned), locked[0] if locked else None)
                for a, b in pairs:
                    self.assertEqual(turned_middles(book, turned, a, b), middles_by_words(states, turned, a, b))
                does_bend = all(middles_by_words(states, turned, a, b) for a, b in pairs)
                self.assertIs(bends(book, turned), does_bend)
                self.assertIs(locked == [], does_bend)
                seen.add(does_bend)
                others = minus(services, turned)
                self.assertTrue(all(is_locked_by_words(states, others, b, a) for a, b in locked))
        self.assertEqual(seen, {True, False})

    def test_four_services(self):
        chance = random.Random(967)
        for services, rules in BOOKS:
            states = helper.allowed(services, rules)
            book = Rulebook(services, rules)
            turned = chance.choice(helper.all_lots(services))
            locked = [(a, b) for a in states for b in states if is_locked_by_words(states, turned, a, b)]
            self.assertEqual(turned_locked(book, turned), locked[0] if locked else None)
            self.assertIs(bends(book, turned), not locked)

    def test_nothing_turned(self):
        for services, rules in BOOKS[:12]:
            book = Rulebook(services, rules)
            self.assertIs(bends(book, ()), is_bendable(book))
            for a, b in itertools.product(book.states()[::2], repeat=2):
                self.assertEqual(turned_middles(book, (), a, b), middles(book, a, b))
                self.assertIs(is_locked_by_words(book.states(), (), a, b), is_locked(book, a, b))

    def test_by_hand(self):
        self.assertEqual(turned_locked(turned=(), book=TORN), (lot("a"), lot("b")))
        self.assertIs(bends(turned=lot("a"), book=TORN), True)
        self.assertEqual(turned_middles(second=lot("b"), first=lot("a"), turned=lot("a"), book=TORN), lots("a"))
        self.assertEqual(turned_middles(TORN, lot("ab"), lot("a"), lot("b")), ())
        self.assertEqual(turned_locked(TORN, lot("ab")), (lot("a"), lot("b")))
        self.assertIsNone(turned_locked(TORN, lot("b")))


class OneWayTest(unittest.TestCase):
    def test_by_words(self):
        chance = random.Random(968)
        found = set()
        for services, rules in BOOKS + SMALL:
            states = helper.allowed(services, rules)
            book = Rulebook(services, rules)
            for plan in helper.random_plans(969, states, 8) if states else ():
                turned = chance.choice(helper.all_lots(services))
                if bends(book, turned):
                    told = one_way(book, turned, list(plan))
                    self.assertIs(type(told), tuple)
                    self.assertTrue(is_one_way(states, turned, plan, told))
                    found.add(len(told))
                else:
                    self.assertEqual(raised(one_way, book, turned, plan), (NotBendable,))
                    found.add(None)
        self.assertLessEqual({None, 1, 2, 3, 4, 5}, found)

    def test_by_hand(self):
        self.assertEqual(one_way(plan=lots("a b"), turned=lot("a"), book=TORN), lots("a b"))
        self.assertEqual(one_way(TORN, lot("b"), lots("a")), lots("a"))
        self.assertEqual(one_way(CLASH, (), lots("a bc")), (lot("-"), lot("bc")))


class ErrorTest(unittest.TestCase):
    def test_turned_comes_first(self):
        asks = (
            lambda turned: sides(CLASH, turned, None, None), lambda turned: turned_fault(CLASH, turned, None, 5),
            lambda turned: turned_book(CLASH, turned), lambda turned: turned_middles(CLASH, turned, None, None),
            lambda turned: turned_locked(CLASH, turned), lambda turned: bends(CLASH, turned),
            lambda turned: one_way(CLASH, turned, None),
        )
        for ask in asks:
            for odd in ODD_STATES:
                self.assertEqual(raised(ask, odd), (InvalidQuestion, 0), repr(odd))

    def test_states(self):
        for ask in (sides, turned_middles):
            for odd in ODD_STATES:
                self.assertEqual(raised(ask, CLASH, lot("a"), odd, odd), (InvalidState, 0), repr(odd))
                self.assertEqual(raised(ask, CLASH, lot("a"), lot("ab"), odd), (InvalidState, 1), repr(odd))
            self.assertEqual(raised(ask, CLASH, (), lot("ab"), lot("ab")), (NotAllowed, 0))
            self.assertEqual(raised(ask, CLASH, (), lot("a"), lot("ab")), (NotAllowed, 1))

    def test_plans(self):
        for ask in (lambda plan: turned_fault(CLASH, (), plan, 5), lambda plan: one_way(CLASH, (), plan),
                    lambda plan: one_way(CLASH, (), plan)):
            for odd in (None, 0, "ab", {}, [], (), Weird(), object()):
                self.assertEqual(raised(ask, odd), (InvalidPlan, 0), repr(odd))
            for odd in ODD_STATES + (lot("ab"),):
                self.assertEqual(raised(ask, [(), odd, None]), (InvalidPlan, 1), repr(odd))
        self.assertEqual(raised(one_way, TORN, (), [()]), (InvalidPlan, 0))
        for odd in ODD_STATES:
            self.assertEqual(raised(turned_fault, CLASH, (), [()], [(), odd]), (InvalidBatches, 1), repr(odd))
        for odd in (True, 0, "ab", {()}, Weird()):
            self.assertEqual(raised(turned_fault, CLASH, (), [()], odd), (InvalidBatches, 0), repr(odd))


if __name__ == "__main__":
    unittest.main()
