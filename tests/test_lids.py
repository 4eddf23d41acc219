"""[51] and [52]: plans and climbs on which costs stay as low as possible."""

import itertools
import random
import unittest

from stopsfirst.bending import Bent, bend
from stopsfirst.costs import Cost, lids_of, under, uneven
from stopsfirst.errors import InvalidBatches, InvalidPlan, InvalidServices, InvalidState, NotAllowed, NotBendable
from stopsfirst.lids import bend_under, bent_front, bent_lid, front, ladder, least_lid, lid_holds
from stopsfirst.plans import wrong_change
from stopsfirst.rulebooks import Rulebook
from tests import helper
from tests.helper import Weird, fits, lot, lots, minus, part, raised
from tests.test_costs import random_form, told_value

FREE = Rulebook(lot("ab"), [])
CLASH = Rulebook(lot("abc"), [("imply", lot("ab"), ())])
TORN = Rulebook(lot("ab"), [("table", lot("ab"), lots("a b"))])
BOOKS = [told for told in helper.random_books(511, 40) if helper.allowed(*told)]
SMALL = [told for told in helper.random_books(512, 40, "abc") if helper.allowed(*told)]
BENDABLE = helper.bendable_books(513, 30)


def questions(books, seed, many):
    """Rulebooks with their states, a cost, the function that works it out, batches, and two states."""
    chance = random.Random(seed)
    for services, rules in books:
        states = helper.allowed(services, rules)
        every = helper.random_batches(chance.random(), services, many)
        for batches in every:
            names = sorted(chance.sample(services, chance.randrange(1, len(services) + 1)))
            form = random_form(chance, names)
            s, t = chance.choice(states), chance.choice(states)
            yield Rulebook(services, rules), states, Cost(names, form), told_value(names, form), batches, s, t


def shortest_ways(states, starts, goes, ends):
    """All ways with the fewest changes, by making all ways longer change by change."""
    ways = [(state,) for state in starts]
    for _ in range(len(states)):
        there = [way for way in ways if way[-1] in ends]
        if there:
            return there
        ways = [way + (state,) for way in ways for state in states if state not in way and goes(way[-1], state)]
        kept = {}
        for way in ways:
            kept.setdefault(way[-1], []).append(way)
        ways = [min(told) for told in kept.values()]
    return []


def plans_under(states, value, batches, s, t, lid):
    low = [state for state in states if value(state) <= lid]
    starts = [state for state in (s,) if state in low]
    return shortest_ways(low, starts, lambda a, b: fits(batches, minus(b, a)), [state for state in (t,) if state in low])


def climbs_under(states, value, batches, s, t, lid):
    low = [state for state in states if value(state) <= lid]
    if s not in low or t not in low:
        return []
    starts = [state for state in low if part(state, s)]
    ends = [state for state in low if part(t, state)]
    return shortest_ways(low, starts, lambda a, b: part(a, b) and fits(batches, minus(b, a)), ends)


def closed_by_words(states, value, batches, s, lid):
    low = [state for state in states if lid is None or value(state) < lid]
    return tuple(sorted(helper.reached(low, s, batches))) if s in low else ()


class LeastLidTest(unittest.TestCase):
    def by_words(self, states, value, batches, s, t):
        for lid in sorted({value(state) for state in states}):
            plans = plans_under(states, value, batches, s, t, lid)
            if plans:
                return (lid, min(plans), closed_by_words(states, value, batches, s, lid))
        return (None, None, closed_by_words(states, value, batches, s, None))

    def test_by_words(self):
        found = set()
        for book, states, cost, value, batches, s, t in questions(BOOKS, 514, 10):
            told = least_lid(book, cost, batches, s, t)
            self.assertEqual(told, self.by_words(states, value, batches, s, t))
            self.assertIs(lid_holds(book, cost, batches, s, t, told), True)
            found.add((told[0] is None, len(told[1] or ()), told[2] == ()))
        self.assertLessEqual({(True, 0, False), (False, 1, True), (False, 2, True), (False, 2, False), (False, 3, False)},
                             found)

    def test_first_of_the_shortest(self):
        """With a cost of nothing all the shortest plans count, and the first one is told."""
        zero = Cost(lot("abcd"), ("sum", ()))
        for services, rules in BOOKS[:20]:
            states = helper.allowed(services, rules)
            ones = tuple((name,) for name in services)
            for s, t in itertools.islice(itertools.product(states, repeat=2), 0, None, 3):
                plans = plans_under(states, lambda state: 0, ones, s, t, 0)
                told = least_lid(Rulebook(services, rules), zero, ones, s, t)
                self.assertEqual(told[1], min(plans) if plans else None)

    def test_by_hand(self):
        cost = Cost(lot("ab"), ("told", (((), 5), (lot("a"), 1), (lot("ab"), 9), (lot("b"), 2))))
        self.assertEqual(least_lid(FREE, cost, None, lot("a"), lot("b")), (2, lots("a b"), lots("a")))
        self.assertEqual(least_lid(FREE, cost, [lot("a")], lot("a"), lot("a")), (1, lots("a"), ()))
        self.assertEqual(least_lid(FREE, cost, [], lot("ab"), ()), (9, lots("ab -"), ()))
        self.assertEqual(least_lid(FREE, cost, [lot("a")], (), lot("b")), (None, None, lots("- a")))
        self.assertEqual(least_lid(t=(), s=lot("a"), batches=(), cost=cost, book=FREE), (5, lots("a -"), lots("a")))
        self.assertEqual(least_lid(TORN, cost, (), lot("a"), lot("b")), (None, None, lots("a")))


class LidHoldsTest(unittest.TestCase):
    def by_words(self, states, value, batches, s, t, sheet):
        lid, plan, closed = sheet
        if (lid is None) != (plan is None):
            return False
        if plan is not None:
            if not plan or plan[0] != s or plan[-1] != t or any(state not in states for state in plan):
                return False
            if any(value(state) > lid for state in plan):
                return False
            if not all(fits(batches, minus(b, a)) for a, b in zip(plan, plan[1:])):
                return False
        low = [state for state in states if lid is None or value(state) < lid]
        if len(set(closed)) != len(closed) or not set(closed) <= set(low) or t in closed:
            return False
        if s not in closed and s in low:
            return False
        return not any(fits(batches, minus(b, a)) for a in closed for b in low if b not in closed)

    def test_all_closed_sets(self):
        """For small rulebooks all sets of states, in two orders, with all numbers near by."""
        chance = random.Random(515)
        found = set()
        for book, states, cost, value, batches, s, t in questions(SMALL, 516, 6):
            if len(states) > 6:
                continue
            lid, plan, _ = least_lid(book, cost, batches, s, t)
            for chosen in range(1 << len(states)):
                closed = [state for k, state in enumerate(states) if chosen >> k & 1]
                chance.shuffle(closed)
                for number in (None, lid) if lid is None else (lid - 1, lid, lid + 1, None):
                    sheet = (number, plan if number is not None else None, tuple(closed))
                    right = self.by_words(states, value, batches, s, t, sheet)
                    self.assertIs(lid_holds(book, cost, batches, s, t, sheet), right, sheet)
                    found.add((right, number is None))
        self.assertEqual(len(found), 4)

    def test_all_plans(self):
        chance = random.Random(517)
        found = set()
        for book, states, cost, value, batches, s, t in questions(SMALL, 518, 6):
            lid, _, closed = least_lid(book, cost, batches, s, t)
            if lid is None:
                continue
            for _ in range(12):
                inside = tuple(chance.choice(states) for _ in range(chance.randrange(4)))
                for plan in ((s,) + inside + (t,), inside, (s,) + inside, inside + (t,)):
                    sheet = (lid, plan, closed)
                    right = self.by_words(states, value, batches, s, t, sheet)
                    self.assertIs(lid_holds(book, cost, batches, s, t, sheet), right)
                    found.add(right)
        self.assertEqual(found, {True, False})

    def test_only_the_least_lid_holds(self):
        for book, states, cost, value, batches, s, t in questions(BOOKS, 519, 3):
            lid, plan, closed = least_lid(book, cost, batches, s, t)
            if lid is not None:
                for number in (lid - 1, lid + 1, None):
                    for told in (plan, None):
                        self.assertIs(lid_holds(book, cost, batches, s, t, (number, told, closed)),
                                      self.by_words(states, value, batches, s, t, (number, told, closed)))
                self.assertIs(lid_holds(sheet=(lid, plan, closed[::-1]), t=t, s=s, batches=batches, cost=cost, book=book),
                              True)

    def test_spoilt_values(self):
        cost = Cost(lot("ab"), ("told", (((), 5), (lot("a"), 1), (lot("ab"), 9), (lot("b"), 2))))
        ask = (FREE, cost, None, lot("a"), lot("b"))
        good = (2, lots("a b"), lots("a"))
        self.assertIs(lid_holds(*ask, good), True)
        self.assertIs(lid_holds(*ask, (2, lots("a a b b"), lots("a"))), True)
        for odd in helper.ODD_VALUES + (Weird(), (Weird(),), (), lot("ab"), 3):
            self.assertIs(lid_holds(*ask, odd), False, repr(odd))
            for at in range(3):
                if not helper.is_same(odd, good[at]):
                    self.assertIs(lid_holds(*ask, good[:at] + (odd,) + good[at + 1:]), False, repr(odd))
            self.assertIs(lid_holds(*ask, good + (odd,)), False, repr(odd))
            self.assertIs(lid_holds(*ask, (2, (lot("a"), odd, lot("b")), good[2])), False, repr(odd))
            self.assertIs(lid_holds(*ask, (2, good[1], (lot("a"), odd))), False, repr(odd))
        for value in (list(good), good[:2], (2, list(good[1]), good[2]), (2, good[1], list(good[2])),
                      (2, good[1], lots("a a")), (None, good[1], good[2]), (2, None, good[2]), (2.0, *good[1:])):
            self.assertIs(lid_holds(*ask, value), False, repr(value))
        self.assertIs(lid_holds(FREE, cost, (), lot("a"), lot("b"), (None, None, lots("a -"))), True)
        self.assertIs(lid_holds(FREE, cost, (), lot("a"), lot("b"), (None, None, lots("a"))), False)
        self.assertIs(lid_holds(FREE, cost, (), lot("a"), lot("b"), (True, None, lots("a -"))), False)
        self.assertIs(lid_holds(FREE, cost, (), lot("a"), lot("b"), (None, lots("a"), lots("a -"))), False)
        self.assertIs(lid_holds(FREE, cost, (), lot("a"), lot("b"), (None, (), lots("a -"))), False)


class BentLidTest(unittest.TestCase):
    def by_words(self, states, value, batches, s, t):
        for lid in sorted({value(state) for state in states}):
            climbs = climbs_under(states, value, batches, s, t, lid)
            if climbs:
                return (lid, min(climbs))
        return None

    def test_by_words(self):
        found = set()
        for book, states, cost, value, batches, s, t in questions(BOOKS + BENDABLE, 520, 10):
            told = bent_lid(book, cost, batches, s, t)
            self.assertEqual(told, self.by_words(states, value, batches, s, t))
            found.add(told and len(told[1]))
        self.assertLessEqual({None, 1, 2, 3}, found)

    def test_single_services(self):
        lengths = set()
        for services, rules in BENDABLE:
            states = helper.allowed(services, rules)
            ones = tuple((name,) for name in services)
            zero = Cost(services, ("sum", ()))
            for s, t in itertools.islice(itertools.product(states, repeat=2), 0, None, 5):
                told = bent_lid(Rulebook(services, rules), zero, ones, s, t)
                self.assertEqual(told, self.by_words(states, lambda state: 0, ones, s, t))
                lengths.add(told and len(told[1]))
        self.assertLessEqual({1, 2, 3, 4, 5}, lengths)

    def test_even_costs(self):
        """A cost is even exactly if bent lids are the least ones, for all states and batches."""
        chance = random.Random(521)
        every = helper.all_lots("abc")
        batches = [[told for k, told in enumerate(every[1:]) if chosen >> k & 1] for chosen in range(128)] + [None]
        found = set()
        for services, rules in SMALL[::2]:
            book = Rulebook(services, rules)
            cost = Cost(services, random_form(chance, services, scale=3))
            same = True
            for s, t in itertools.product(book.states(), repeat=2):
                for told in batches[::3] + [[minus(t, s)]]:
                    lid = least_lid(book, cost, told, s, t)[0]
                    bent = bent_lid(book, cost, told, s, t)
                    same = same and lid == (bent and bent[0])
            self.assertIs(uneven(book, [cost]) is None, same)
            found.add(same)
        self.assertEqual(found, {True, False})

    def test_by_hand(self):
        cost = Cost(lot("ab"), ("told", (((), 5), (lot("a"), 1), (lot("ab"), 4), (lot("b"), 2))))
        self.assertEqual(bent_lid(FREE, cost, None, lot("a"), lot("b")), (4, lots("a ab")))
        self.assertEqual(bent_lid(FREE, cost, None, lot("ab"), lot("b")), (4, lots("ab")))
        self.assertEqual(bent_lid(FREE, cost, [lot("b")], (), lot("b")), (5, lots("- b")))
        self.assertIsNone(bent_lid(t=lot("b"), s=lot("a"), batches=[], cost=cost, book=FREE))
        self.assertIsNone(bent_lid(TORN, cost, None, lot("a"), lot("b")))
        self.assertEqual(bent_lid(TORN, cost, None, lot("a"), lot("a")), (1, lots("a")))


class BendUnderTest(unittest.TestCase):
    def test_by_words(self):
        chance = random.Random(522)
        found = set()
        for services, rules in BOOKS + BENDABLE:
            book = Rulebook(services, rules)
            states = list(book.states())
            for plan in helper.random_plans(523, states, 4):
                costs = [Cost(services, random_form(chance, services)) for _ in range(chance.randrange(1, 4))]
                lower = under(book, costs, lids_of(costs, plan))
                if not helper.is_bendable(list(lower.states())):
                    self.assertEqual(raised(bend_under, book, costs, plan), (NotBendable,))
                    found.add(False)
                    continue
                told = bend_under(book, tuple(costs), list(plan))
                self.assertIsInstance(told, Bent)
                self.assertEqual((told.plan, told.climb), (plan, bend(lower, plan).climb))
                for low, high in zip(lids_of(costs, told.whole), lids_of(costs, plan)):
                    self.assertLessEqual(low, high)
                self.assertIsNone(wrong_change(book, told.whole))
                found.add(True)
        self.assertEqual(found, {True, False})

    def test_errors_in_their_order(self):
        good, other = Cost(lot("ab"), ("sum", ())), Cost(lot("z"), ("sum", ()))
        self.assertEqual(raised(bend_under, TORN, [good, other], None), (InvalidServices, 1))
        self.assertEqual(raised(bend_under, TORN, [good], None), (InvalidPlan, 0))
        self.assertEqual(raised(bend_under, TORN, [good], []), (InvalidPlan, 0))
        self.assertEqual(raised(bend_under, TORN, [good], lots("a b ab")), (InvalidPlan, 2))
        self.assertEqual(raised(bend_under, plan=lots("a b"), costs=[good], book=TORN), (NotBendable,))


class LadderTest(unittest.TestCase):
    def test_by_words(self):
        found = set()
        for book, states, cost, value, batches, s, _ in questions(BOOKS, 524, 8):
            rungs = {}
            for t in states:
                lids = [lid for lid in sorted({value(state) for state in states})
                        if plans_under(states, value, batches, s, t, lid)]
                rungs.setdefault(lids[0] if lids else None, []).append(t)
            right = [(lid, tuple(rungs[lid])) for lid in sorted(lid for lid in rungs if lid is not None)]
            if None in rungs:
                right.append((None, tuple(rungs[None])))
            self.assertEqual(ladder(book, cost, batches, s), tuple(right))
            found.add((len(right) > 2, None in rungs))
        self.assertEqual(len(found), 4)

    def test_by_hand(self):
        cost = Cost(lot("ab"), ("told", (((), 5), (lot("a"), 1), (lot("ab"), 9), (lot("b"), 2))))
        self.assertEqual(ladder(FREE, cost, None, lot("a")), ((1, lots("a")), (2, lots("b")), (5, lots("-")),
                                                             (9, lots("ab"))))
        self.assertEqual(ladder(s=(), batches=[lot("b")], cost=cost, book=FREE), ((5, lots("- b")), (None, lots("a ab"))))
        self.assertEqual(ladder(TORN, cost, [], lot("a")), ((1, lots("a")), (None, lots("b"))))


class FrontTest(unittest.TestCase):
    def by_words(self, states, values, batches, s, t, ways):
        """Plans and climbs under two lids are those under one lid for the pairs of numbers."""
        numbers = [sorted({value(state) for state in states}) for value in values]
        pairs = [(i, j) for i in numbers[0] for j in numbers[1]
                 if ways(states, lambda state: 0 if values[0](state) <= i and values[1](state) <= j else 1,
                         batches, s, t, 0)]
        return tuple((i, j) for i, j in pairs
                     if not any((k, l) != (i, j) and k <= i and l <= j for k, l in pairs))

    def test_by_words(self):
        chance = random.Random(525)
        found = set()
        free = Rulebook(lot("abcd"), [])
        far = [(free, list(free.states()), 0, 0, lots("a b c d"), (), lot("abcd"))] * 20
        for book, states, _, _, batches, s, t in [*questions(BOOKS[:25] + BENDABLE, 526, 6), *far]:
            names = book.services
            forms = [random_form(chance, names, "told", 9) for _ in range(2)]
            (cost, value), (other, worth) = [(Cost(names, form), told_value(names, form)) for form in forms]
            told = front(book, cost, other, batches, s, t)
            self.assertEqual(told, self.by_words(states, (value, worth), batches, s, t, plans_under))
            bent = bent_front(book, cost, other, batches, s, t)
            self.assertEqual(bent, self.by_words(states, (value, worth), batches, s, t, climbs_under))
            found |= {("front", len(told)), ("bent", len(bent))}
        self.assertLessEqual({("front", 0), ("front", 1), ("front", 2), ("bent", 0), ("bent", 1), ("bent", 2)}, found)

    def test_by_hand(self):
        one = Cost(lot("ab"), ("told", (((), 5), (lot("ab"), 1))))
        other = Cost(lot("ab"), ("told", (((), 1), (lot("ab"), 5))))
        self.assertEqual(front(FREE, one, other, lots("a b"), lot("a"), lot("b")), ((0, 0),))
        self.assertEqual(bent_front(FREE, one, other, lots("a b"), lot("a"), lot("b")), ((1, 5), (5, 1)))
        self.assertEqual(front(t=lot("b"), s=lot("a"), batches=[], second=other, first=one, book=FREE), ())
        self.assertEqual(bent_front(t=lot("b"), s=lot("a"), batches=[], second=other, first=one, book=FREE), ())
        self.assertEqual(front(FREE, one, other, [], (), ()), ((5, 1),))
        self.assertEqual(bent_front(FREE, one, other, [], (), ()), ((5, 1),))


class ErrorTest(unittest.TestCase):
    def asks(self):
        good = Cost(lot("ab"), ("sum", ()))
        yield 2, lambda s, t, batches, cost=good: least_lid(CLASH, cost, batches, s, t)
        yield 2, lambda s, t, batches, cost=good: bent_lid(CLASH, cost, batches, s, t)
        yield 2, lambda s, t, batches, cost=good: lid_holds(CLASH, cost, batches, s, t, None)
        yield 1, lambda s, batches, cost=good: ladder(CLASH, cost, batches, s)
        yield 2, lambda s, t, batches, cost=good: front(CLASH, cost, good, batches, s, t)
        yield 2, lambda s, t, batches, cost=good: bent_front(CLASH, cost, good, batches, s, t)

    def test_costs_then_batches_then_states(self):
        other = Cost(lot("az"), ("sum", ()))
        for many, ask in self.asks():
            self.assertEqual(raised(ask, *[None] * many, 5, other), (InvalidServices, 0))
            for value in (True, 0, "ab", {()}, Weird()):
                self.assertEqual(raised(ask, *[None] * many, value), (InvalidBatches, 0))
            for odd in helper.ODD_VALUES + (["a"], lot("ae"), Weird()):
                self.assertEqual(raised(ask, *[None] * many, [(), odd, 5]), (InvalidBatches, 1), repr(odd))
                self.assertEqual(raised(ask, *[odd] * many, []), (InvalidState, 0), repr(odd))
                if many == 2:
                    self.assertEqual(raised(ask, lot("ab"), odd, []), (InvalidState, 1), repr(odd))
            self.assertEqual(raised(ask, *[lot("ab")] * many, []), (NotAllowed, 0))
            if many == 2:
                self.assertEqual(raised(ask, lot("a"), lot("ab"), None), (NotAllowed, 1))

    def test_second_cost(self):
        good, other = Cost(lot("ab"), ("sum", ())), Cost(lot("az"), ("sum", ()))
        for ask in (front, bent_front):
            self.assertEqual(raised(ask, CLASH, good, other, 5, None, None), (InvalidServices, 1))
            self.assertEqual(raised(ask, CLASH, other, other, 5, None, None), (InvalidServices, 0))


if __name__ == "__main__":
    unittest.main()
