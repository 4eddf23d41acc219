"""[86] to [88]: hidden, fixed, copied and guarded services, and kernels."""

import itertools
import random
import unittest

from stopsfirst.court import is_bendable, locked_changes
from stopsfirst.errors import InvalidBatches, InvalidPlan, InvalidQuestion, InvalidState, NotAllowed
from stopsfirst.hidden import (
    copied, fixed, freed, guarded, hidden, is_kernel, kernel, lifted, lifts, outside,
)
from stopsfirst.plans import wrong_change
from stopsfirst.rulebooks import Rulebook
from tests import helper
from tests.helper import Weird, fits, join, lot, lots, meet, minus, part, raised

CLASH = Rulebook(lot("abc"), [("imply", lot("ab"), ())])
TORN = Rulebook(lot("ab"), [("table", lot("ab"), lots("a b"))])
ODD_NAMES = helper.ODD_VALUES + (["a"], lot("az"), Weird(), (Weird(),))
BOOKS = helper.random_books(861, 40)
BENDABLE = helper.bendable_books(862, 30)


def shown(states, names):
    return tuple(sorted({minus(state, names) for state in states}))


class HiddenTest(unittest.TestCase):
    def test_by_words(self):
        for services, rules in BOOKS + BENDABLE:
            states = helper.allowed(services, rules)
            book = Rulebook(services, rules)
            for names in helper.all_lots(services):
                if names == services:
                    continue
                others = minus(services, names)
                told = hidden(book, names)
                self.assertEqual(told, Rulebook(others, [("table", others, shown(states, names))]))
                if helper.is_bendable(states):
                    self.assertIs(is_bendable(told), True)
                for lot_told in helper.all_lots(others):
                    right = tuple(state for state in states if minus(state, names) == lot_told)
                    self.assertEqual(lifts(book, names, lot_told), right)

    def test_by_hand(self):
        self.assertEqual(hidden(names=lot("b"), book=CLASH).states(), lots("- a ac c"))
        self.assertEqual(hidden(CLASH, ()).states(), CLASH.states())
        self.assertEqual(hidden(CLASH, lot("bc")).services, lot("a"))
        self.assertEqual(lifts(lot=lot("c"), names=lot("ab"), book=CLASH), lots("ac bc c"))
        self.assertEqual(lifts(CLASH, (), lot("ab")), ())

    def test_batches(self):
        self.assertEqual(freed(CLASH, lot("c"), lots("a b")), lots("ac bc"))
        self.assertEqual(freed(batches=(), names=lot("c"), book=CLASH), lots("c"))
        self.assertEqual(freed(CLASH, (), ()), ())
        self.assertEqual(freed(CLASH, (), [(), lot("a"), lot("ab")]), lots("ab"))
        self.assertIsNone(freed(CLASH, lot("c"), None))
        self.assertEqual(outside(CLASH, lot("c"), lots("ac bc c")), lots("a b"))
        self.assertEqual(outside(batches=lots("c"), names=lot("c"), book=CLASH), ())
        self.assertEqual(outside(CLASH, (), lots("a ab")), lots("ab"))
        self.assertIsNone(outside(CLASH, lot("c"), None))
        chance = random.Random(863)
        free = Rulebook(lot("abcd"), [])
        for batches in helper.random_batches(864, "abcd", 40)[1:]:
            names = chance.choice(helper.all_lots("abcd")[:-1])
            if names == lot("abcd"):
                continue
            told = helper.greatest([join(batch, names) for batch in batches] + [names])
            self.assertEqual(freed(free, names, batches), tuple(one for one in told if one))
            told = helper.greatest([minus(batch, names) for batch in batches])
            self.assertEqual(outside(free, names, batches), tuple(one for one in told if one))

    def test_what_is_reached(self):
        chance = random.Random(865)
        found = set()
        for services, rules in BOOKS + BENDABLE:
            states = helper.allowed(services, rules)
            book = Rulebook(services, rules)
            for _ in range(6 if states else 0):
                names = chance.choice([one for one in helper.all_lots(services) if one != services])
                batches = chance.choice(helper.random_batches(chance.random(), services, 9))
                start, goal = chance.choice(states), chance.choice(states)
                free, rest = freed(book, names, batches), outside(book, names, batches)
                inside = minus(goal, names) in helper.reached(shown(states, names), minus(start, names), rest)
                self.assertIs(goal in helper.reached(states, start, free), inside)
                found.add((inside, batches is None))
        self.assertLessEqual({(True, True), (True, False), (False, False)}, found)

    def test_names(self):
        asks = (lambda names: hidden(CLASH, names), lambda names: lifts(CLASH, names, None),
                lambda names: freed(CLASH, names, 5), lambda names: outside(CLASH, names, 5),
                lambda names: lifted(CLASH, names, None, None, None))
        for ask in asks:
            for odd in ODD_NAMES + (lot("abc"),):
                self.assertEqual(raised(ask, odd), (InvalidQuestion, 1), repr(odd))
        for ask in (freed, outside):
            for odd in ODD_NAMES:
                self.assertEqual(raised(ask, CLASH, lot("c"), [(), odd]), (InvalidBatches, 1), repr(odd))
            for odd in (True, 0, "ab", {()}, Weird()):
                self.assertEqual(raised(ask, CLASH, lot("c"), odd), (InvalidBatches, 0), repr(odd))
        for odd in ODD_NAMES + (lot("bc"), lot("ac")):
            self.assertEqual(raised(lifts, CLASH, lot("c"), odd), (InvalidState, 0), repr(odd))


class LiftedTest(unittest.TestCase):
    def test_by_words(self):
        chance = random.Random(866)
        lengths = set()
        for services, rules in BOOKS + BENDABLE:
            states = helper.allowed(services, rules)
            book = Rulebook(services, rules)
            for _ in range(6 if states else 0):
                names = chance.choice([one for one in helper.all_lots(services) if one != services])
                start, goal = chance.choice(states), chance.choice(states)
                seen = shown(states, names)
                plan = [minus(start, names)] + [chance.choice(seen) for _ in range(chance.randrange(3))]
                plan.append(minus(goal, names))
                if len(plan) == 2 and plan[0] == plan[1] and chance.random() < 0.8:
                    plan.pop()
                told = lifted(book, names, plan, start, goal)
                inner = [next(s for s in states if minus(s, names) == state) for state in plan[1:-1]]
                right = (start,) if len(plan) == 1 and start == goal else (start, *inner, goal)
                self.assertEqual(told, right)
                lengths.add(len(told))
                for batches in helper.random_batches(chance.random(), services, 9):
                    if wrong_change(hidden(book, names), plan, outside(book, names, batches)) is None:
                        self.assertIsNone(wrong_change(book, told, freed(book, names, batches)))
        self.assertEqual(lengths, {1, 2, 3, 4})

    def test_by_hand(self):
        self.assertEqual(lifted(CLASH, lot("c"), [lot("a"), (), lot("b")], lot("ac"), lot("b")), lots("ac - b"))
        self.assertEqual(lifted(CLASH, lot("c"), lots("a"), lot("a"), lot("ac")), lots("a ac"))
        self.assertEqual(lifted(goal=lot("ac"), start=lot("ac"), plan=lots("a"), names=lot("c"), book=CLASH), lots("ac"))
        self.assertEqual(lifted(CLASH, lot("c"), lots("a a"), lot("ac"), lot("ac")), lots("ac ac"))

    def test_errors(self):
        for odd in (None, 0, "ab", {}, [], (), Weird(), object()):
            self.assertEqual(raised(lifted, CLASH, lot("c"), odd, None, None), (InvalidPlan, 0), repr(odd))
        for odd in ODD_NAMES + (lot("ac"), lot("ab")):
            self.assertEqual(raised(lifted, CLASH, lot("c"), [(), odd], None, None), (InvalidPlan, 1), repr(odd))
        for odd in ODD_NAMES:
            self.assertEqual(raised(lifted, CLASH, lot("c"), lots("a b"), odd, odd), (InvalidState, 0), repr(odd))
            self.assertEqual(raised(lifted, CLASH, lot("c"), lots("a b"), lot("ab"), odd), (InvalidState, 1), repr(odd))
        ask = (CLASH, lot("c"), lots("a b"))
        self.assertEqual(raised(lifted, *ask, lot("ab"), lot("ab")), (NotAllowed, 0))
        self.assertEqual(raised(lifted, *ask, lot("b"), lot("ab")), (NotAllowed, 1))
        self.assertEqual(raised(lifted, *ask, lot("b"), lot("a")), (InvalidQuestion, 3))
        self.assertEqual(raised(lifted, *ask, lot("ac"), lot("a")), (InvalidQuestion, 4))
        self.assertIsNone(raised(lifted, *ask, lot("ac"), lot("b")))


class FurtherRulesTest(unittest.TestCase):
    def test_fixed(self):
        for services, rules in BOOKS[:15] + BENDABLE[:10]:
            states = helper.allowed(services, rules)
            book = Rulebook(services, rules)
            for running, resting in itertools.product(helper.all_lots(services), repeat=2):
                if meet(running, resting):
                    self.assertEqual(raised(fixed, book, running, resting), (InvalidQuestion, 2))
                    continue
                told = fixed(book, running, resting)
                further = [("imply", (), (x,)) for x in running] + [("imply", (x,), ()) for x in resting]
                self.assertEqual(told, Rulebook(services, list(book.rules) + further))
                right = tuple(s for s in states if part(running, s) and not meet(resting, s))
                self.assertEqual(told.states(), right)
                self.assertTrue(is_bendable(told) or not helper.is_bendable(states))

    def test_fixed_by_hand(self):
        book = Rulebook(lot("ab"), [("imply", lot("a"), ())])
        self.assertEqual(fixed(resting=lot("b"), running=lot("a"), book=book).states(), ())
        self.assertEqual(fixed(book, (), ()), book)
        for odd in ODD_NAMES:
            self.assertEqual(raised(fixed, CLASH, odd, None), (InvalidQuestion, 1), repr(odd))
            self.assertEqual(raised(fixed, CLASH, lot("a"), odd), (InvalidQuestion, 2), repr(odd))

    def test_copied_and_guarded(self):
        found = set()
        for services, rules in BOOKS + BENDABLE:
            states = helper.allowed(services, rules)
            book = Rulebook(services, rules)
            for name, new in (("a", "ab"), ("d", "cz")):
                told = copied(book, name, new)
                self.assertEqual(told, Rulebook(services + (new,), list(book.rules) + [
                    ("imply", (name,), (new,)), ("imply", (new,), (name,))]))
                right = sorted(join(s, (new,)) if name in s else s for s in states)
                self.assertEqual(told.states(), tuple(right))
                self.assertIs(is_bendable(told), helper.is_bendable(states))
                told = guarded(book, name, new)
                both = tuple(sorted((name, new)))
                self.assertEqual(told, Rulebook(services + (new,), list(book.rules) + [
                    ("imply", (), both), ("imply", both, ())]))
                right = sorted(s if name in s else join(s, (new,)) for s in states)
                self.assertEqual(told.states(), tuple(right))
                runs = {name in state for state in states}
                self.assertIs(is_bendable(told), helper.is_bendable(states) and len(runs) < 2)
                found.add((helper.is_bendable(states), len(runs), is_bendable(told)))
        self.assertLessEqual({(True, 1, True), (True, 2, False), (False, 2, False)}, found)

    def test_names(self):
        self.assertEqual(copied(copy="z", name="a", book=TORN).services, lot("abz"))
        self.assertEqual(guarded(guard="z", name="b", book=TORN).states(), lots("az b"))
        for ask in (copied, guarded):
            for odd in helper.ODD_VALUES + ("z", Weird(), (Weird(),)):
                if not helper.is_same(odd, "a"):
                    self.assertEqual(raised(ask, CLASH, odd, None), (InvalidQuestion, 1), repr(odd))
            for odd in ODD_NAMES + ("b", "A", "abcdef", "", "a b", "c"):
                if not helper.is_same(odd, "ab"):
                    self.assertEqual(raised(ask, CLASH, "a", odd), (InvalidQuestion, 2), repr(odd))


def is_kernel_by_words(states, services, paper):
    low, never, free, name, last = paper
    if sorted(low + never + free + (name,) + last) != sorted(services):
        return False
    left = {minus(s, low + never + free) for s in states if part(low, s) and not meet(never, s)}
    return (name,) in left and last in left and () not in left and join((name,), last) not in left


class KernelTest(unittest.TestCase):
    def test_by_words(self):
        kernels = 0
        for services, rules in BOOKS + BENDABLE:
            states = helper.allowed(services, rules)
            book = Rulebook(services, rules)
            told = kernel(book)
            self.assertIs(told is None, helper.is_bendable(states))
            if told is not None:
                a, b = locked_changes(book)[0]
                alone = minus(a, b)
                self.assertEqual(told, (meet(a, b), minus(services, join(a, b)), alone[1:], alone[0], minus(b, a)))
                self.assertTrue(is_kernel_by_words(states, services, told))
                self.assertIs(is_kernel(book, told), True)
                kernels += 1
        self.assertGreater(kernels, 10)

    def papers(self, services):
        """All ways to put the services into five places, one of them alone in the fourth."""
        for places in itertools.product(range(5), repeat=len(services)):
            if places.count(3) == 1:
                told = [tuple(name for name, place in zip(services, places) if place == at) for at in range(5)]
                yield (told[0], told[1], told[2], told[3][0], told[4])

    def test_all_papers(self):
        held = 0
        for services, rules in helper.random_books(867, 30, "abc"):
            states = helper.allowed(services, rules)
            book = Rulebook(services, rules)
            found = 0
            for paper in self.papers(services):
                right = is_kernel_by_words(states, services, paper)
                self.assertIs(is_kernel(book, paper), right)
                found += right
            self.assertIs(found == 0, helper.is_bendable(states))
            held += found
        self.assertGreater(held, 10)

    def test_spoilt_papers(self):
        good = kernel(TORN)
        self.assertEqual(good, ((), (), (), "a", lot("b")))
        self.assertIs(is_kernel(paper=good, book=TORN), True)
        for odd in helper.ODD_VALUES + (Weird(), (Weird(),), (), good[:4], good + ((),), list(good)):
            self.assertIs(is_kernel(TORN, odd), False, repr(odd))
            for at in range(5):
                if not helper.is_same(odd, good[at]):
                    self.assertIs(is_kernel(TORN, good[:at] + (odd,) + good[at + 1:]), False, (at, repr(odd)))
        for paper in ((lot("b"), (), (), "a", lot("b")), ((), (), (), "a", ()), ((), (), lot("b"), "a", ()),
                      ([], (), (), "a", lot("b")), ((), (), (), lot("a"), lot("b")), ((), (), lot("a"), "a", lot("b"))):
            self.assertIs(is_kernel(TORN, paper), False)
        self.assertIs(is_kernel(TORN, ((), (), (), "b", lot("a"))), True)

    def test_each_service_stands_in_just_one_place(self):
        book = Rulebook(lot("abc"), [("table", lot("ab"), lots("a b"))])
        for good in ((lot("c"), (), ()), ((), lot("c"), ()), ((), (), lot("c"))):
            self.assertIs(is_kernel(book, (*good, "a", lot("b"))), True)
        for wrong in (((), (), ()), (lot("c"), (), lot("c")), (lot("c"), lot("c"), ()), ((), lot("c"), lot("c"))):
            self.assertIs(is_kernel(book, (*wrong, "a", lot("b"))), False)

    def test_kernels_by_hand(self):
        for told, right in (("ab c", ((), lot("d"), lot("b"), "a", lot("c"))),
                            ("abc d", ((), (), lot("bc"), "a", lot("d"))),
                            ("ac bcd", (lot("c"), (), (), "a", lot("bd"))),
                            ("b d", ((), lot("ac"), (), "b", lot("d")))):
            book = Rulebook(lot("abcd"), [("table", lot("abcd"), lots(told))])
            self.assertEqual(kernel(book=book), right)
            self.assertIs(is_kernel(book, right), True)

    def test_lifts_fit(self):
        """Where what is hidden is freed, one change leads from each lift to each other one."""
        free = freed(CLASH, lot("bc"), ())
        for a, b in itertools.product(lifts(CLASH, lot("bc"), lot("a")), repeat=2):
            self.assertTrue(fits(free, minus(b, a)))


if __name__ == "__main__":
    unittest.main()
