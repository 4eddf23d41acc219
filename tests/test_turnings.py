"""[98]: which services may be turned."""

import itertools
import random
import unittest

from stopsfirst.errors import InvalidPlan, NotBendable
from stopsfirst.rulebooks import Rulebook
from stopsfirst.turned import bends, turned_locked
from stopsfirst.turnings import every_turning, is_turning_paper, sorted_plan, turnings
from tests import helper
from tests.helper import Weird, lot, lots, meet, minus, raised
from tests.test_turned import apart, is_locked_by_words, sides_by_words

TORN = Rulebook(lot("ab"), [("table", lot("ab"), lots("a b"))])
CLASH = Rulebook(lot("abc"), [("imply", lot("ab"), ())])
NEEDS = Rulebook(lot("abc"), [("imply", lot("a"), lot("b"))])
NEVER = Rulebook(lot("ab"), [("imply", (), ())])
BOOKS = helper.random_books(981, 50, "abc") + [(lot("abc"), [("imply", lot("ab"), ())]), (lot("abc"), [])]


def faults(states, name):
    """The first allowed state that runs the service and is not allowed without it; the first the other way round."""
    stops = [s for s in states if name in s and minus(s, (name,)) not in states]
    starts = [s for s in states if name not in s and tuple(sorted(s + (name,))) not in states]
    return (stops[0] if stops else None, starts[0] if starts else None)


def sorted_books(seed, many, services="abcd"):
    """Rulebooks where each service always stops or always starts: parts of some lots, turned."""
    chance = random.Random(seed)
    for _ in range(many):
        tops = [one for one in helper.all_lots(services) if chance.random() < 0.2] or [()]
        down = [one for one in helper.all_lots(services) if any(set(one) <= set(top) for top in tops)]
        turned = chance.choice(helper.all_lots(services))
        yield tuple(services), helper.table_of(services, sorted(apart(one, turned) for one in down))


class PaperTest(unittest.TestCase):
    def test_turnings(self):
        for services, rules in BOOKS:
            states = helper.allowed(services, rules)
            right = []
            for turned in helper.all_lots(services):
                locked = [(a, b) for a in states for b in states if is_locked_by_words(states, turned, a, b)]
                right.append((turned, locked[0] if locked else None))
            self.assertEqual(turnings(Rulebook(services, rules)), tuple(right))
        self.assertEqual(turnings(book=TORN), (((), lots("a b")), (lot("a"), None), (lot("ab"), lots("a b")),
                                               (lot("b"), None)))

    def test_every_turning(self):
        found = set()
        for services, rules in BOOKS + list(sorted_books(982, 20)):
            states = helper.allowed(services, rules)
            book = Rulebook(services, rules)
            told = every_turning(book)
            both = [name for name in services if None not in faults(states, name)]
            if both:
                a, b = faults(states, both[0])
                turned = minus(minus(a, b), both[:1])
                self.assertEqual(told, ("some", turned, (a, b)))
                self.assertTrue(is_locked_by_words(states, turned, a, b))
            else:
                turned = tuple(name for name in services if faults(states, name)[0] is not None)
                self.assertEqual(told, ("every", turned))
            self.assertIs(is_turning_paper(book, told), True)
            every = all(bends(book, turned) for turned in helper.all_lots(services))
            self.assertIs(told[0] == "every", every)
            found.add((told[0], len(told[1])))
        self.assertLessEqual({("some", 0), ("some", 1), ("every", 0), ("every", 1), ("every", 2)}, found)

    def test_by_hand(self):
        self.assertEqual(every_turning(book=CLASH), ("every", ()))
        self.assertEqual(every_turning(TORN), ("some", (), lots("a b")))
        self.assertEqual(every_turning(NEVER), ("every", ()))
        self.assertEqual(every_turning(Rulebook(lot("ab"), [("imply", (), lot("a"))])), ("every", lot("a")))
        self.assertEqual(every_turning(NEEDS), ("every", lot("b")))

    def test_all_papers(self):
        """Each lot with "every"; each lot and each pair of states with "some"."""
        found = set()
        for services, rules in BOOKS[:24] + list(sorted_books(983, 8, "abc")):
            states = helper.allowed(services, rules)
            book = Rulebook(services, rules)
            for turned in helper.all_lots(services):
                right = all(faults(states, name)[1 if name in turned else 0] is None for name in services)
                self.assertIs(is_turning_paper(book, ("every", turned)), right)
                found.add(("every", right))
                for a, b in itertools.product(states, repeat=2):
                    right = is_locked_by_words(states, turned, a, b)
                    self.assertIs(is_turning_paper(book, ("some", turned, (a, b))), right)
                    found.add(("some", right))
        self.assertEqual(found, set(itertools.product(("every", "some"), (True, False))))

    def test_what_may_be_in_w_or_not(self):
        free = Rulebook(lot("ab"), [])
        for turned in helper.all_lots("ab"):
            self.assertIs(is_turning_paper(free, ("every", turned)), True)
        self.assertIs(is_turning_paper(CLASH, ("every", lot("c"))), True)
        self.assertIs(is_turning_paper(CLASH, ("every", lot("a"))), False)

    def test_spoilt_papers(self):
        for book, good in ((TORN, every_turning(TORN)), (CLASH, every_turning(CLASH))):
            self.assertIs(is_turning_paper(value=good, book=book), True)
            for odd in helper.ODD_VALUES + (Weird(), (Weird(),), (Weird(), ()), (), good[:1], good + ((),), list(good),
                                            ("every",), ("EVERY", ()), (b"every", ()), ("some", ()), lot("az")):
                self.assertIs(is_turning_paper(book, odd), False, repr(odd))
                for at in range(len(good)):
                    if not helper.is_same(odd, good[at]) and not (at == 1 and odd == () and type(odd) is tuple):
                        spoilt = good[:at] + (odd,) + good[at + 1:]
                        self.assertIs(is_turning_paper(book, spoilt), False, repr(spoilt))
        for pair in (list(lots("a b")), (lot("a"),), lots("a b a"), (["a"], lot("b")), (lot("a"), Weird()), lots("a z"),
                     (lot("a"), ()), (lot("a"), lot("ab")), lots("a a")):
            self.assertIs(is_turning_paper(TORN, ("some", (), pair)), False, repr(pair))
        self.assertIs(is_turning_paper(TORN, ("some", (), lots("b a"))), True)
        self.assertIs(is_turning_paper(TORN, ("some", lot("ab"), lots("b a"))), True)
        self.assertIs(is_turning_paper(TORN, ("some", lot("a"), lots("b a"))), False)


class SortedTest(unittest.TestCase):
    def by_words(self, turned, plan):
        told = [apart(state, turned) for state in plan]
        down = [told[0]]
        for state in told[1:]:
            down.append(meet(down[-1], state))
        up = [told[-1]]
        for state in reversed(told[:-1]):
            up.insert(0, meet(up[0], state))
        return tuple(apart(state, turned) for state in down + up[1:])

    def test_by_words(self):
        lengths = set()
        for services, rules in list(sorted_books(984, 30)) + BOOKS:
            states = helper.allowed(services, rules)
            book = Rulebook(services, rules)
            word, turned = every_turning(book)[:2]
            for plan in helper.random_plans(985, states, 8) if states else ():
                if word == "some":
                    self.assertEqual(raised(sorted_plan, book, plan), (NotBendable,))
                    continue
                told = sorted_plan(book, list(plan))
                self.assertEqual(told, self.by_words(turned, plan))
                self.assertEqual(len(told), 2 * len(plan) - 1)
                self.assertTrue(set(told) <= set(states))
                half = len(plan) - 1
                for at in range(1, len(told)):
                    free, batched = sides_by_words(turned, told[at - 1], told[at])
                    self.assertEqual(batched if at <= half else free, ())
                lengths.add(len(told))
        self.assertLessEqual({1, 3, 5, 7, 9}, lengths)

    def test_by_hand(self):
        self.assertEqual(sorted_plan(plan=lots("a"), book=CLASH), lots("a"))
        self.assertEqual(sorted_plan(CLASH, lots("ac bc")), lots("ac c bc"))
        self.assertEqual(sorted_plan(Rulebook(lot("ab"), [("imply", (), lot("ab"))]), lots("a b")), lots("a ab b"))

    def test_errors(self):
        for book in (CLASH, TORN):
            for odd in (None, 0, "ab", {}, [], (), Weird(), object()):
                self.assertEqual(raised(sorted_plan, book, odd), (InvalidPlan, 0), repr(odd))
            for odd in helper.ODD_VALUES + (Weird(), lot("az"), lot("ab")):
                self.assertEqual(raised(sorted_plan, book, [lot("a"), odd]), (InvalidPlan, 1), repr(odd))
        self.assertEqual(raised(sorted_plan, TORN, lots("a a")), (NotBendable,))
        self.assertIsNone(turned_locked(CLASH, lot("a")))


if __name__ == "__main__":
    unittest.main()
