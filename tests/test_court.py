"""[15], [17] to [20]: whether a rulebook is bendable, and what is wrong if not."""

import unittest

from stopsfirst.court import (
    bad_cuts, bad_joins, bad_pairs, core, hull, is_bendable, is_locked, least_bad_pair, locked_changes, locked_within,
)
from stopsfirst.errors import InvalidState, NotAllowed
from stopsfirst.rulebooks import Rulebook
from tests import helper
from tests.helper import Weird, lot, lots, raised

BOOKS = helper.random_books(61, 40) + helper.random_books(62, 16, "abc") + helper.random_books(63, 4, "a")


def gap(pair):
    return len(set(pair[0]) ^ set(pair[1]))


class BendableTest(unittest.TestCase):
    def test_whole_rulebooks(self):
        answers = set()
        for services, rules in BOOKS:
            book = Rulebook(services, rules)
            bad = tuple(helper.bad_pairs(helper.allowed(services, rules)))
            self.assertIs(is_bendable(book), not bad)
            self.assertEqual(bad_pairs(book), bad)
            nearest = [pair for pair in bad if gap(pair) == min(gap(other) for other in bad)]
            self.assertEqual(least_bad_pair(book), nearest[0] if bad else None)
            answers.add(not bad)
        self.assertEqual(answers, {True, False})

    def test_between_two_lots(self):
        answers = set()
        for services, rules in BOOKS[:20] + BOOKS[40:]:
            book = Rulebook(services, rules)
            states = helper.allowed(services, rules)
            every = helper.bad_pairs(states)
            for low in helper.all_lots(services):
                for high in helper.all_lots(services):
                    inside = helper.between(states, low, high)
                    bad = tuple(pair for pair in every if pair[0] in inside and pair[1] in inside)
                    self.assertIs(is_bendable(book, low=low, high=high), not bad)
                    self.assertEqual(bad_pairs(book, low=low, high=high), bad)
                    answers.add((bool(bad), helper.part(low, high)))
        self.assertEqual(answers, {(True, True), (False, True), (False, False)})

    def test_one_bound_alone(self):
        book = Rulebook(lot("abc"), [("table", lot("abc"), lots("a b c ab bc abc"))])
        told = ((lot("a"), lot("c")), (lot("c"), lot("a")))
        self.assertEqual(bad_pairs(book), told)
        self.assertEqual(bad_pairs(book, low=lot("a")), ())
        self.assertEqual(bad_pairs(book, high=lot("ac")), told)
        self.assertEqual(bad_pairs(book, low=(), high=None), told)
        self.assertIs(is_bendable(book, low=lot("b")), True)
        self.assertIs(is_bendable(book, high=lot("bc")), True)
        self.assertIs(is_bendable(book, high=lot("ac")), False)

    def test_by_hand(self):
        clash = Rulebook(lot("abcd"), [("imply", lot("ab"), ()), ("imply", (), lot("cd"))])
        self.assertIs(is_bendable(clash), True)
        self.assertIsNone(least_bad_pair(clash))
        torn = Rulebook(lot("ab"), [("imply", lot("ab"), ()), ("imply", (), lot("ab"))])
        self.assertIs(is_bendable(torn), False)
        self.assertEqual(bad_pairs(torn), ((lot("a"), lot("b")), (lot("b"), lot("a"))))
        self.assertEqual(least_bad_pair(torn), (lot("a"), lot("b")))

    def test_the_nearest_bad_pair(self):
        book = Rulebook(lot("abcd"), [("table", lot("abcd"), lots("ab b cd d"))])
        self.assertEqual(bad_pairs(book)[0], (lot("ab"), lot("cd")))
        self.assertEqual(least_bad_pair(book), (lot("b"), lot("d")))

    def test_edges(self):
        for rules in ([("imply", (), ())], [("table", lot("abc"), [lot("b")])], []):
            book = Rulebook(lot("abc"), rules)
            self.assertIs(is_bendable(book), True)
            self.assertEqual((bad_pairs(book), least_bad_pair(book), locked_changes(book)), ((), None, ()))

    def test_the_same_question_again(self):
        book = Rulebook(*BOOKS[1])
        self.assertEqual([bad_pairs(book) for _ in range(3)], [tuple(helper.bad_pairs(helper.allowed(*BOOKS[1])))] * 3)


class LockedTest(unittest.TestCase):
    def test_locked(self):
        for services, rules in BOOKS:
            book = Rulebook(services, rules)
            states = helper.allowed(services, rules)
            told = tuple((a, b) for a in states for b in states if helper.is_locked(states, a, b))
            self.assertEqual(locked_changes(book), told)
            self.assertEqual(told == (), helper.is_bendable(states))
            self.assertIn(least_bad_pair(book), told + (None,))
            for a in states:
                for b in states:
                    self.assertIs(is_locked(book, a, b), (a, b) in told)

    def test_between_two_lots(self):
        for services, rules in BOOKS[:16] + BOOKS[40:46]:
            book = Rulebook(services, rules)
            states = helper.allowed(services, rules)
            every = [(a, b) for a in states for b in states if helper.is_locked(states, a, b)]
            for low in helper.all_lots(services):
                for high in helper.all_lots(services):
                    inside = helper.between(states, low, high)
                    told = tuple(pair for pair in every if pair[0] in inside and pair[1] in inside)
                    self.assertEqual(locked_changes(book, low=low, high=high), told)

    def test_locked_within(self):
        found = set()
        for services, rules in BOOKS:
            book = Rulebook(services, rules)
            states = helper.allowed(services, rules)
            for a in states:
                for b in states:
                    told = None
                    if not helper.middles(states, a, b):
                        one = helper.least(helper.between(states, helper.meet(a, b), a))[0]
                        told = (one, helper.greatest(helper.between(states, b, helper.join(one, b)))[0])
                        self.assertTrue(helper.is_locked(states, *told))
                    self.assertEqual(locked_within(book, a, b), told)
                    found.add(told == (a, b) if told else None)
        self.assertEqual(found, {True, False, None})

    def test_within(self):
        book = Rulebook(lot("ab"), [])
        for a in book.states():
            for b in book.states():
                self.assertIs(is_locked(book, a, b), False)
        torn = Rulebook(lot("ab"), [("table", lot("ab"), lots("a ab"))])
        self.assertIs(is_locked(torn, lot("a"), lot("ab")), False)
        self.assertIs(is_locked(torn, lot("a"), lot("a")), False)
        self.assertIs(is_locked(torn, lot("ab"), lot("a")), False)
        apart = Rulebook(lot("ab"), [("table", lot("ab"), lots("a b"))])
        self.assertIs(is_locked(book=apart, second=lot("a"), first=lot("b")), True)
        self.assertEqual(locked_within(apart, lot("b"), lot("a")), (lot("b"), lot("a")))

    def test_the_other_fact(self):
        for services, rules in BOOKS:
            states = helper.allowed(services, rules)
            easy = all(helper.join(a, b) in states or
                       any(x != a for x in helper.between(states, helper.meet(a, b), a))
                       for a in states for b in states)
            self.assertIs(is_bendable(Rulebook(services, rules)), easy)


class CutTest(unittest.TestCase):
    def test_bad_cuts_and_core(self):
        for services, rules in BOOKS:
            book = Rulebook(services, rules)
            states = helper.allowed(services, rules)
            bendable = True
            for told in helper.all_lots(services):
                inside = helper.between(states, (), told)
                tops = helper.greatest(inside)
                bad = tuple((q, c) for q in tops for c in inside if helper.meet(q, c) not in states)
                self.assertEqual(bad_cuts(book, told), bad)
                shared = tuple(name for name in services if all(name in q for q in tops)) if tops else None
                self.assertEqual(core(book, told), shared)
                bendable = bendable and not bad
            self.assertIs(is_bendable(book), bendable)

    def test_bad_joins_and_hull(self):
        for services, rules in BOOKS:
            book = Rulebook(services, rules)
            states = helper.allowed(services, rules)
            bendable = True
            for told in helper.all_lots(services):
                around = helper.between(states, told, services)
                lowest = helper.least(around)
                bad = tuple((p, c) for p in lowest for c in around if helper.join(p, c) not in states)
                self.assertEqual(bad_joins(book, told), bad)
                some = tuple(name for name in services if any(name in p for p in lowest)) if lowest else None
                self.assertEqual(hull(book, told), some)
                bendable = bendable and not bad
            self.assertIs(is_bendable(book), bendable)

    def test_cores_and_hulls_of_bendable_rulebooks(self):
        for services, rules in helper.bendable_books(64, 40):
            book = Rulebook(services, rules)
            for told in helper.all_lots(services):
                self.assertIn(core(book, told), book.states() + (None,))
                self.assertIn(hull(book, told), book.states() + (None,))

    def test_edges(self):
        book = Rulebook(lot("abc"), [("table", lot("abc"), lots("a b"))])
        self.assertEqual(bad_cuts(book, lot("abc")), ((lot("a"), lot("b")), (lot("b"), lot("a"))))
        self.assertEqual(bad_joins(book, ()), ((lot("a"), lot("b")), (lot("b"), lot("a"))))
        self.assertEqual((bad_cuts(book, lot("c")), core(book, lot("c"))), ((), None))
        self.assertEqual((bad_joins(book, lot("c")), hull(book, lot("c"))), ((), None))
        self.assertEqual((core(book, lot("abc")), hull(book, ())), ((), lot("ab")))
        self.assertEqual((core(book=book, lot=lot("ac")), hull(book=book, lot=lot("a"))), (lot("a"), lot("a")))
        never = Rulebook(lot("abc"), [("imply", (), ())])
        self.assertEqual((core(never, lot("abc")), hull(never, ())), (None, None))
        self.assertEqual((bad_cuts(never, lot("abc")), bad_joins(never, ())), ((), ()))


class ErrorTest(unittest.TestCase):
    def setUp(self):
        self.book = Rulebook(lot("abcd"), [("imply", ["a"], ["b"])])

    def test_low_and_high(self):
        for ask in (is_bendable, bad_pairs, locked_changes):
            for odd in helper.ODD_VALUES + (Weird(), ["a"], lot("ae")):
                self.assertEqual(raised(ask, self.book, low=odd), (InvalidState, 0), repr(odd))
                self.assertEqual(raised(ask, self.book, low=odd, high=odd), (InvalidState, 0), repr(odd))
                if odd is not None:
                    self.assertEqual(raised(ask, self.book, high=odd), (InvalidState, 1), repr(odd))
            self.assertIsNone(raised(ask, self.book, low=lot("a"), high=lot("ac")))
            self.assertIsNone(raised(ask, self.book, low=lot("a"), high=None))
            self.assertRaises(TypeError, ask, self.book, ())

    def test_lot(self):
        for ask in (bad_cuts, bad_joins, core, hull):
            for odd in helper.ODD_VALUES + (Weird(), ["a"], lot("ae")):
                self.assertEqual(raised(ask, self.book, odd), (InvalidState, 0), repr(odd))
            self.assertIsNone(raised(ask, self.book, lot("a")))

    def test_states(self):
        for ask in (is_locked, locked_within):
            for odd in helper.ODD_VALUES + (Weird(), ["a"], lot("ae")):
                self.assertEqual(raised(ask, self.book, odd, lot("a")), (InvalidState, 0), repr(odd))
                self.assertEqual(raised(ask, self.book, lot("a"), odd), (InvalidState, 1), repr(odd))
            self.assertEqual(raised(ask, self.book, (), lot("a")), (NotAllowed, 1))
            self.assertEqual(raised(ask, self.book, lot("ac"), lot("a")), (NotAllowed, 0))


if __name__ == "__main__":
    unittest.main()
