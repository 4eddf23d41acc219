"""[58] to [60]: which services have to be started first, and which ones lie on every way."""

import itertools
import unittest

from stopsfirst.errors import InvalidBatches, InvalidQuestion, InvalidState, NotAllowed
from stopsfirst.gates import (
    comes_first, first_pairs, leaning_pairs, least_blocks, least_carriers, least_gates, least_helpers, opening_plan,
    parting_plan,
)
from stopsfirst.losses import least_hitters
from stopsfirst.plans import wrong_change
from stopsfirst.reach import distances
from stopsfirst.rulebooks import Rulebook
from tests import helper
from tests.helper import Weird, join, lot, lots, meet, minus, part, raised
from tests.test_losses import BENDABLE, BOOKS, EITHER, is_calm, journeys

CLASH = Rulebook(lot("abc"), [("imply", lot("ab"), ())])
TORN = Rulebook(lot("ab"), [("table", lot("ab"), lots("a b"))])
CHAIN = Rulebook(lot("abcd"), [("imply", lot("b"), lot("a")), ("imply", lot("c"), lot("b"))])
MET = [told for told in helper.random_books(551, 150) if helper.allowed(*told)
       and all(meet(a, b) in helper.allowed(*told) for a in helper.allowed(*told) for b in helper.allowed(*told))]


def single_journeys(books, step=9):
    """The same with batches of one service, for a few starts and goals."""
    for services, rules in books:
        states = helper.allowed(services, rules)
        ones = tuple((name,) for name in services)
        for start, goal in itertools.islice(itertools.product(states, repeat=2), 0, None, step):
            yield Rulebook(services, rules), states, ones, start, goal


def reached_inside(states, batches, start, is_inside):
    inside = [state for state in states if is_inside(state)]
    return list(helper.reached(inside, start, batches)) if start in inside else []


def carriers_by_words(services, states, batches, start, x):
    outside = minus(minus(services, start), (x,))
    found = []
    for told in helper.all_lots(outside):
        whole = set(start) | set(told) | {x}
        if any(x in state for state in reached_inside(states, batches, start, lambda state: set(state) <= whole)):
            found.append(told)
    return helper.least(found)


def gates_by_words(services, states, batches, start, x):
    outside = minus(minus(services, start), (x,))
    found = []
    for told in helper.all_lots(outside):
        reached = reached_inside(states, batches, start, lambda state: not set(state) & set(told))
        if not any(x in state for state in reached):
            found.append(told)
    return helper.least(found)


class CarrierTest(unittest.TestCase):
    def test_by_words(self):
        found = set()
        for book, states, batches, start, _ in [*journeys(BOOKS, 552, 4), *single_journeys(BOOKS[:15] + [EITHER])]:
            for x in book.services:
                carriers = least_carriers(book, batches, start, x)
                self.assertEqual(carriers, carriers_by_words(book.services, states, batches, start, x))
                gates = least_gates(book, batches, start, x)
                self.assertEqual(gates, gates_by_words(book.services, states, batches, start, x))
                self.assertEqual(least_hitters(carriers), gates)
                self.assertEqual(least_hitters(gates), carriers)
                found |= {("carriers", len(carriers)), ("gates", len(gates))}
        self.assertLessEqual({("carriers", 0), ("carriers", 1), ("carriers", 2), ("gates", 0), ("gates", 1)}, found)

    def test_where_meets_are_allowed(self):
        seen = set()
        for book, _, batches, start, _ in [*journeys(MET, 553, 6), *single_journeys(MET[::3])]:
            for x in book.services:
                self.assertLessEqual(len(least_carriers(book, batches, start, x)), 1)
                for gate in least_gates(book, batches, start, x):
                    self.assertLess(len(gate), 2)
                    seen.add(len(gate))
        self.assertEqual(seen, {0, 1})

    def test_by_hand(self):
        ones = lots("a b c d")
        self.assertEqual(least_carriers(CHAIN, ones, (), "c"), lots("ab"))
        self.assertEqual(least_gates(CHAIN, ones, (), "c"), lots("a b"))
        self.assertEqual(least_carriers(CHAIN, [lot("abc")], (), "c"), lots("ab"))
        self.assertEqual(least_carriers(CHAIN, ones, lot("a"), "c"), lots("b"))
        self.assertEqual(least_carriers(service="a", start=lot("a"), batches=[], book=CHAIN), lots("-"))
        self.assertEqual(least_gates(service="a", start=lot("a"), batches=[], book=CHAIN), ())
        self.assertEqual(least_carriers(CHAIN, [], (), "a"), ())
        self.assertEqual(least_gates(CHAIN, [], (), "a"), lots("-"))
        self.assertEqual(least_carriers(Rulebook(*EITHER), ones, (), "a"), lots("c d"))
        self.assertEqual(least_gates(Rulebook(*EITHER), ones, (), "a"), lots("cd"))
        self.assertEqual(least_carriers(TORN, None, lot("a"), "b"), lots("-"))


class OpeningTest(unittest.TestCase):
    def test_by_words(self):
        found = set()
        for book, states, batches, start, _ in [*journeys(BOOKS, 554, 4), *single_journeys(BENDABLE)]:
            bendable = helper.is_bendable(states)
            for x in book.services:
                for carrier in helper.all_lots(book.services)[::3]:
                    whole = set(start) | set(carrier) | {x}
                    reached = reached_inside(states, batches, start, lambda state: set(state) <= whole)
                    plan = opening_plan(book, batches, start, x, carrier)
                    self.assertIs(plan is not None, any(x in state for state in reached))
                    found.add(plan and min(len(plan), 3))
                    if plan is None:
                        continue
                    self.assertIs(type(plan), tuple)
                    self.assertEqual(plan[0], start)
                    self.assertIn(x, plan[-1])
                    self.assertIsNone(wrong_change(book, plan, batches))
                    self.assertTrue(all(set(state) <= whole for state in plan))
                    if bendable:
                        self.assertTrue(all(part(a, b) for a, b in zip(plan[1:], plan[2:])), plan)
                        self.assertLessEqual(len(plan) - 1, len(book.services))
        self.assertEqual(found, {None, 1, 2, 3})

    def test_by_hand(self):
        ones = lots("a b c d")
        self.assertEqual(opening_plan(CHAIN, ones, (), "c", lot("ab")), lots("- a ab abc"))
        self.assertEqual(opening_plan(carrier=(), service="a", start=(), batches=ones, book=CHAIN), lots("- a"))
        self.assertIsNone(opening_plan(CHAIN, ones, (), "c", lot("a")))
        self.assertEqual(opening_plan(CHAIN, [], lot("a"), "a", lot("a")), lots("a"))
        self.assertEqual(opening_plan(CHAIN, ones, lot("a"), "b", lot("ab")), lots("a ab"))
        self.assertEqual(opening_plan(TORN, None, lot("a"), "b", ()), lots("a b"))
        self.assertEqual(opening_plan(CLASH, None, lot("a"), "b", ())[1:], lots("b"))


class FirstTest(unittest.TestCase):
    def test_by_words(self):
        """From plans along which the first service has not run yet, one that runs the other and not the first."""
        found = set()
        for book, states, batches, start, _ in [*journeys(BOOKS, 555, 5), *single_journeys(BOOKS[:15])]:
            everywhere = helper.reached(states, start, batches)
            pairs = []
            for one, other in itertools.product(book.services, repeat=2):
                before = reached_inside(states, batches, start, lambda state: one not in state)
                right = not any(other in state for state in before)
                self.assertIs(comes_first(book, batches, start, one, other), right)
                known = one not in start and other not in start and any(other in state for state in everywhere)
                if right and one != other and known:
                    pairs.append((one, other))
                found.add(right)
            told = first_pairs(book, batches, start)
            self.assertEqual(told, tuple(pairs))
            for (a, b), (c, d) in itertools.product(told, repeat=2):
                if b == c and a != d:
                    self.assertIn((a, d), told)
            if batches is not None and all(len(batch) < 2 for batch in batches):
                self.assertFalse([pair for pair in told if pair[::-1] in told])
        self.assertEqual(found, {True, False})

    def test_some_plan_by_plan(self):
        """All plans with up to four changes, state by state: where the first is missing, no plan shows it first."""
        for services, rules in helper.random_books(556, 12, "abc"):
            states = helper.allowed(services, rules)
            book = Rulebook(services, rules)
            for start in states[:3]:
                ones = lots("a b c")
                plans = [(start,)]
                for _ in range(4):
                    plans += [plan + (state,) for plan in plans if len(plan) < 5 for state in states
                              if state not in plan and helper.fits(ones, minus(state, plan[-1]))]
                    plans = sorted(set(plans))
                for one, other in itertools.product(services, repeat=2):
                    right = True
                    for plan in plans:
                        firsts = [at for at, state in enumerate(plan) if other in state]
                        if firsts and not any(one in state for state in plan[:firsts[0] + 1]):
                            right = False
                    self.assertIs(comes_first(book, ones, start, one, other), right)

    def test_by_hand(self):
        ones = lots("a b c d")
        self.assertIs(comes_first(CHAIN, ones, (), "a", "c"), True)
        self.assertIs(comes_first(other="a", one="c", start=(), batches=ones, book=CHAIN), False)
        self.assertIs(comes_first(CHAIN, ones, lot("a"), "a", "d"), True)
        self.assertIs(comes_first(CHAIN, ones, lot("a"), "d", "a"), False)
        self.assertIs(comes_first(CHAIN, (), (), "c", "d"), True)
        self.assertIs(comes_first(CHAIN, None, (), "d", "d"), True)
        self.assertEqual(first_pairs(CHAIN, ones, ()), (("a", "b"), ("a", "c"), ("b", "c")))
        self.assertEqual(first_pairs(CHAIN, [lot("abc")], ()), (("a", "b"), ("a", "c"), ("b", "c")))
        both = Rulebook(lot("ab"), [("imply", lot("a"), lot("b")), ("imply", lot("b"), lot("a"))])
        self.assertEqual(first_pairs(start=(), batches=None, book=both), (("a", "b"), ("b", "a")))
        self.assertEqual(first_pairs(both, (), ()), ())


class HelperTest(unittest.TestCase):
    def test_by_words(self):
        found = set()
        for book, states, batches, start, goal in [*journeys(BOOKS, 557, 8), *single_journeys(BOOKS),
                                                  *single_journeys([EITHER], 1)]:
            outside = minus(book.services, join(start, goal))
            helpers, blocks = [], []
            for told in helper.all_lots(outside):
                whole = set(start) | set(goal) | set(told)
                if goal in reached_inside(states, batches, start, lambda state: set(state) <= whole):
                    helpers.append(told)
                if goal not in reached_inside(states, batches, start, lambda state: not set(state) & set(told)):
                    blocks.append(told)
            told = least_helpers(book, batches, start, goal)
            self.assertEqual(told, helper.least(helpers))
            against = least_blocks(book, batches, start, goal)
            self.assertEqual(against, helper.least(blocks))
            self.assertEqual((least_hitters(told), least_hitters(against)), (against, told))
            found |= {("helpers", len(told)), ("blocks", len(against))}
        self.assertLessEqual({("helpers", 0), ("helpers", 1), ("helpers", 2), ("blocks", 0), ("blocks", 1)}, found)

    def test_where_meets_are_allowed(self):
        for book, states, batches, start, goal in [*journeys(MET, 558, 6), *single_journeys(MET[::3])]:
            right = ((),) if goal in helper.reached(states, start, batches) else ()
            self.assertEqual(least_helpers(book, batches, start, goal), right)

    def test_by_hand(self):
        ones = lots("a b c d")
        book = Rulebook(*EITHER)
        self.assertEqual(least_helpers(book, ones, (), lot("ab")), lots("c d"))
        self.assertEqual(least_blocks(book, ones, (), lot("ab")), lots("cd"))
        self.assertEqual(least_helpers(goal=lot("abc"), start=(), batches=ones, book=book), lots("-"))
        self.assertEqual(least_blocks(goal=lot("abc"), start=(), batches=ones, book=book), ())
        self.assertEqual(least_helpers(book, (), (), lot("ab")), ())
        self.assertEqual(least_blocks(book, (), (), lot("ab")), lots("-"))
        self.assertEqual((least_helpers(book, (), (), ()), least_blocks(book, (), (), ())), (lots("-"), ()))


class PartingTest(unittest.TestCase):
    def test_by_words(self):
        found = set()
        for book, states, batches, start, _ in [*journeys(BOOKS, 559, 5), *single_journeys(BENDABLE)]:
            reached = helper.reached(states, start, batches)
            bendable = helper.is_bendable(states)
            for runs, rests in itertools.product(book.services, repeat=2):
                plan = parting_plan(book, batches, start, runs, rests)
                self.assertIs(plan is not None, any(runs in state and rests not in state for state in reached))
                found.add(plan and min(len(plan), 3))
                if plan is None:
                    continue
                self.assertEqual(plan[0], start)
                self.assertTrue(runs in plan[-1] and rests not in plan[-1])
                self.assertIsNone(wrong_change(book, plan, batches))
                if bendable:
                    self.assertTrue(is_calm(plan))
                    self.assertLessEqual(len(plan) - 1, len(book.services))
        self.assertEqual(found, {None, 1, 2, 3})

    def test_by_hand(self):
        ones = lots("a b c d")
        self.assertEqual(parting_plan(CHAIN, ones, (), "b", "c"), lots("- a ab"))
        self.assertIsNone(parting_plan(CHAIN, ones, (), "c", "b"))
        self.assertIsNone(parting_plan(rests="a", runs="a", start=lot("a"), batches=None, book=CHAIN))
        self.assertEqual(parting_plan(CHAIN, [], lot("a"), "a", "b"), lots("a"))


class LeaningTest(unittest.TestCase):
    def test_by_words(self):
        some = 0
        for book, states, batches, start, _ in [*journeys(BOOKS, 560, 6), *single_journeys(BOOKS[:15])]:
            reached = sorted(helper.reached(states, start, batches))
            right = tuple((a, b) for a, b in itertools.permutations(book.services, 2)
                          if any(a in state for state in reached)
                          and all(b in state for state in reached if a in state))
            told = leaning_pairs(book, batches, start)
            self.assertEqual(told, right)
            some += len(told)
            for a, b in itertools.permutations(book.services, 2):
                if any(a in state for state in reached):
                    more = book.with_rules([("imply", (a,), (b,))])
                    same = more.allows(start) and [state for state, _ in distances(more, start, batches)] == reached
                    self.assertIs((a, b) in told, same)
        self.assertGreater(some, 100)

    def test_where_meets_are_allowed(self):
        seen = 0
        for book, _, batches, start, _ in [*journeys(MET, 561, 6), *single_journeys(MET[::3])]:
            first = first_pairs(book, batches, start)
            outside = minus(book.services, start)
            for a, b in leaning_pairs(book, batches, start):
                if a in outside and b in outside:
                    self.assertIn((b, a), first)
                    seen += 1
            for b, a in first:
                self.assertIn((a, b), leaning_pairs(book, batches, start))
        self.assertGreater(seen, 20)

    def test_by_hand(self):
        self.assertEqual(leaning_pairs(CHAIN, lots("a b c d"), ()), (("b", "a"), ("c", "a"), ("c", "b")))
        self.assertEqual(leaning_pairs(CHAIN, [], ()), ())
        self.assertEqual(leaning_pairs(start=lot("a"), batches=[lot("d")], book=CHAIN), ())
        self.assertEqual(leaning_pairs(Rulebook(lot("ab"), [("imply", (), lot("b"))]), None, lot("b")), (("a", "b"),))


class ErrorTest(unittest.TestCase):
    def asks(self):
        """Functions with the number of states, and of services behind these."""
        yield 1, 1, lambda *more: least_carriers(CLASH, *more)
        yield 1, 1, lambda *more: least_gates(CLASH, *more)
        yield 1, 1, lambda *more: opening_plan(CLASH, *more, None)
        yield 1, 2, lambda *more: comes_first(CLASH, *more)
        yield 1, 2, lambda *more: parting_plan(CLASH, *more)
        yield 1, 0, lambda *more: first_pairs(CLASH, *more)
        yield 1, 0, lambda *more: leaning_pairs(CLASH, *more)
        yield 2, 0, lambda *more: least_helpers(CLASH, *more)
        yield 2, 0, lambda *more: least_blocks(CLASH, *more)

    def test_batches_then_states_then_services(self):
        for states, services, ask in self.asks():
            for odd in helper.ODD_VALUES + (["a"], lot("az"), Weird(), (Weird(),)):
                rest = [odd] * services
                self.assertEqual(raised(ask, [(), odd], *[odd] * states, *rest), (InvalidBatches, 1), repr(odd))
                self.assertEqual(raised(ask, (), *[odd] * states, *rest), (InvalidState, 0), repr(odd))
                if states == 2:
                    self.assertEqual(raised(ask, (), lot("ab"), odd), (InvalidState, 1), repr(odd))
                if services and not helper.is_same(odd, "a"):
                    self.assertEqual(raised(ask, (), lot("a"), *rest), (InvalidQuestion, 0), repr(odd))
                    if services == 2:
                        self.assertEqual(raised(ask, (), lot("a"), "c", odd), (InvalidQuestion, 1), repr(odd))
            for value in (True, 0, "ab", {()}, Weird()):
                self.assertEqual(raised(ask, value, *[None] * (states + services)), (InvalidBatches, 0))
            self.assertEqual(raised(ask, (), *[lot("ab")] * states, *[None] * services), (NotAllowed, 0))
            if states == 2:
                self.assertEqual(raised(ask, None, lot("a"), lot("ab")), (NotAllowed, 1))

    def test_carriers(self):
        for odd in helper.ODD_VALUES + (["a"], lot("az"), Weird(), (Weird(),)):
            self.assertEqual(raised(opening_plan, CLASH, None, lot("a"), "a", odd), (InvalidQuestion, 1), repr(odd))
        self.assertEqual(raised(opening_plan, CLASH, None, lot("a"), "z", None), (InvalidQuestion, 0))


if __name__ == "__main__":
    unittest.main()
