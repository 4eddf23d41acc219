"""[99] and [100]: strict and weak climbs, how many there are, and which number each of them has."""

import itertools
import random
import unittest

from stopsfirst.counting import balance, bent_count, climb_at, climb_number, strict_counts, weak_count
from stopsfirst.errors import InvalidBatches, InvalidPlan, InvalidQuestion, InvalidState, NotAllowed
from stopsfirst.rulebooks import Rulebook
from tests import helper
from tests.helper import Weird, fits, lot, lots, minus, part, proper, raised

FREE = Rulebook(lot("abc"), [])
CLASH = Rulebook(lot("abc"), [("imply", lot("ab"), ())])
BOOKS = [told for told in helper.random_books(991, 40) if helper.allowed(*told)]
SMALL = [told for told in helper.random_books(992, 30, "abc") if helper.allowed(*told)]


def climbs_from(states, batches, start):
    """All strict climbs from a state, whatever they end at."""
    level = [(start,)]
    found = []
    while level:
        found += level
        level = [climb + (t,) for climb in level for t in states
                 if proper(climb[-1], t) and fits(batches, minus(t, climb[-1]))]
    return found


def strict_by_words(states, batches, start, goal):
    return sorted(climb for climb in climbs_from(states, batches, start) if climb[-1] == goal)


def weak_by_words(states, batches, starts, goals, changes):
    """All weak climbs from one of some states to one of others, by going through all rows of states."""
    level = [(state,) for state in states if state in starts]
    for _ in range(changes):
        level = [climb + (t,) for climb in level for t in states
                 if part(climb[-1], t) and fits(batches, minus(t, climb[-1]))]
    return [climb for climb in level if climb[-1] in goals]


def questions(seed, books, many):
    chance = random.Random(seed)
    for services, rules in books:
        states = helper.allowed(services, rules)
        for _ in range(many):
            batches = chance.choice(helper.random_batches(chance.random(), services, 9))
            start = chance.choice(states)
            above = [state for state in states if part(start, state)]
            goal = chance.choice(above) if chance.random() < 0.7 else chance.choice(states)
            yield Rulebook(services, rules), states, batches, start, goal


class StrictTest(unittest.TestCase):
    def test_by_words(self):
        sizes = set()
        for book, states, batches, start, goal in questions(993, BOOKS, 8):
            climbs = strict_by_words(states, batches, start, goal)
            counts = strict_counts(book, batches, start, goal)
            right = tuple(len([c for c in climbs if len(c) == k + 1]) for k in range(5))
            self.assertEqual(counts, right)
            for number, climb in enumerate(climbs):
                self.assertEqual(climb_at(book, batches, start, goal, number), climb)
                self.assertEqual(climb_number(book, batches, start, goal, climb), number)
                self.assertEqual(climb_number(book, batches, start, goal, list(climb)), number)
            for number in (len(climbs), len(climbs) + 1, 10 ** 9):
                self.assertEqual(raised(climb_at, book, batches, start, goal, number), (InvalidQuestion, 0))
            sizes.add(min(len(climbs), 4))
        self.assertEqual(sizes, {0, 1, 2, 3, 4})

    def test_balance(self):
        found = set()
        for book, states, _, start, goal in questions(994, BOOKS, 8):
            climbs = strict_by_words(states, None, start, goal)
            right = sum(-1 if len(climb) % 2 == 0 else 1 for climb in climbs)
            self.assertEqual(balance(book, start, goal), right)
            found.add(right)
        self.assertLessEqual({-1, 0, 1}, found)
        self.assertEqual(balance(second=lot("abc"), first=(), book=FREE), -1)
        self.assertEqual(balance(FREE, lot("a"), lot("b")), 0)
        self.assertEqual(balance(FREE, lot("a"), lot("a")), 1)

    def test_by_hand(self):
        self.assertEqual(strict_counts(second=lot("abc"), first=(), batches=None, book=FREE), (0, 1, 6, 6))
        self.assertEqual(strict_counts(FREE, lots("a b c"), (), lot("abc")), (0, 0, 0, 6))
        self.assertEqual(strict_counts(FREE, (), lot("a"), lot("a")), (1, 0, 0, 0))
        self.assertEqual(strict_counts(FREE, None, lot("a"), lot("b")), (0, 0, 0, 0))
        self.assertEqual(climb_at(number=0, second=lot("abc"), first=(), batches=None, book=FREE), lots("- a ab abc"))
        self.assertEqual(climb_at(FREE, None, (), lot("abc"), 12), lots("- c bc abc"))
        self.assertEqual(climb_at(FREE, (), lot("a"), lot("a"), 0), lots("a"))
        self.assertEqual(climb_number(climb=lots("- abc"), second=lot("abc"), first=(), batches=None, book=FREE), 4)

    def test_numbers(self):
        for odd in (None, True, False, -1, 13, 1.0, "0", (0,), [], Weird(), object()):
            self.assertEqual(raised(climb_at, FREE, None, (), lot("abc"), odd), (InvalidQuestion, 0), repr(odd))
        self.assertEqual(raised(climb_at, FREE, None, lot("a"), lot("b"), 0), (InvalidQuestion, 0))

    def wrong_entry(self, states, batches, start, goal, climb):
        for at, state in enumerate(climb):
            if at == 0:
                if state != start:
                    return at
            elif state not in states or not proper(climb[at - 1], state) or not fits(batches, minus(state, climb[at - 1])):
                return at
        if not climb:
            return 0
        return len(climb) if climb[-1] != goal else None

    def test_wrong_climbs(self):
        chance = random.Random(995)
        found = set()
        for book, states, batches, start, goal in questions(996, SMALL, 20):
            every = helper.all_lots(book.services)
            climb = list(chance.choice(climbs_from(states, batches, start)))
            if chance.random() < 0.6:
                climb[chance.randrange(len(climb))] = chance.choice(every)
            if chance.random() < 0.3:
                climb.append(chance.choice(every))
            wrong = self.wrong_entry(states, batches, start, goal, climb)
            if wrong is not None:
                self.assertEqual(raised(climb_number, book, batches, start, goal, climb), (InvalidPlan, wrong))
            else:
                self.assertIsNone(raised(climb_number, book, batches, start, goal, climb))
            found.add((wrong, len(climb)))
        self.assertLessEqual({(None, 1), (None, 2), (0, 1), (1, 1), (1, 2), (2, 2), (2, 3)}, found)

    def test_odd_climbs(self):
        ask = (CLASH, None, (), lot("bc"))
        for odd in (None, True, 0, "ab", {}, {()}, [], (), Weird(), object(), iter([()])):
            self.assertEqual(raised(climb_number, *ask, odd), (InvalidPlan, 0), repr(odd))
        for odd in helper.ODD_VALUES + (lot("az"), Weird(), (Weird(),), lot("ab"), (), ["b"]):
            self.assertEqual(raised(climb_number, *ask, ((), odd, None)), (InvalidPlan, 1), repr(odd))
            if not helper.is_same(odd, ()):
                self.assertEqual(raised(climb_number, *ask, (odd, None)), (InvalidPlan, 0), repr(odd))
        self.assertEqual(raised(climb_number, *ask, lots("- a ac")), (InvalidPlan, 3))
        self.assertEqual(raised(climb_number, *ask, lots("- b")), (InvalidPlan, 2))
        self.assertEqual(raised(climb_number, FREE, None, (), lot("a"), lots("- a ab")), (InvalidPlan, 3))
        self.assertEqual(raised(climb_number, FREE, None, (), lot("a"), lots("- ab b")), (InvalidPlan, 2))


class WeakTest(unittest.TestCase):
    def test_by_words(self):
        chance = random.Random(997)
        found = set()
        for book, states, batches, start, goal in questions(998, SMALL, 8):
            changes = chance.randrange(5)
            right = len(weak_by_words(states, batches, [start], [goal], changes))
            self.assertEqual(weak_count(book, batches, start, goal, changes), right)
            inside = [state for state in states if part(state, start)]
            around = [state for state in states if part(goal, state)]
            bent = len(weak_by_words(states, batches, inside, around, changes))
            self.assertEqual(bent_count(book, batches, start, goal, changes), bent)
            found.add((changes, min(right, 2), min(bent, 2)))
        self.assertLessEqual({(0, 0, 0), (0, 1, 1), (1, 0, 2), (2, 0, 2), (3, 2, 2), (4, 2, 2)}, found)

    def test_many_changes(self):
        many = 1000000000
        self.assertEqual(weak_count(FREE, None, (), lot("abc"), many), many ** 3)
        self.assertEqual(weak_count(FREE, lots("a b c"), (), lot("abc"), many), many * (many - 1) * (many - 2))
        self.assertEqual(weak_count(FREE, None, lot("a"), lot("a"), many), 1)
        self.assertEqual(bent_count(FREE, None, (), lot("abc"), many), many ** 3)
        self.assertEqual(bent_count(FREE, None, (), (), many), (many + 1) ** 3)
        for changes in range(6):
            self.assertEqual(weak_count(FREE, None, (), lot("abc"), changes), changes ** 3)

    def test_by_hand(self):
        self.assertEqual(weak_count(changes=0, second=lot("a"), first=lot("a"), batches=(), book=CLASH), 1)
        self.assertEqual(weak_count(CLASH, None, (), lot("a"), 0), 0)
        self.assertEqual(bent_count(changes=0, second=lot("a"), first=lot("ac"), batches=(), book=CLASH), 2)
        self.assertEqual(bent_count(CLASH, None, lot("a"), lot("b"), 0), 0)
        self.assertEqual(bent_count(CLASH, None, lot("a"), lot("b"), 1), 2)
        self.assertEqual(weak_count(CLASH, None, lot("a"), lot("b"), 5), 0)

    def test_wrong_changes(self):
        for ask in (weak_count, bent_count):
            for odd in (None, True, False, -1, 1000000001, 1.0, "0", (0,), Weird(), object()):
                self.assertEqual(raised(ask, FREE, None, (), lot("a"), odd), (InvalidQuestion, 0), repr(odd))
            self.assertIsNone(raised(ask, FREE, None, (), lot("a"), 1000000000))


class ErrorTest(unittest.TestCase):
    def test_batches_then_states(self):
        asks = (
            lambda *told: strict_counts(CLASH, *told), lambda *told: climb_at(CLASH, *told, None),
            lambda *told: climb_number(CLASH, *told, None), lambda *told: weak_count(CLASH, *told, None),
            lambda *told: bent_count(CLASH, *told, None), lambda _, *told: balance(CLASH, *told),
        )
        for ask, has_batches in zip(asks, itertools.chain([True] * 5, [False])):
            for odd in helper.ODD_VALUES + (["a"], lot("az"), Weird(), (Weird(),)):
                if has_batches:
                    self.assertEqual(raised(ask, [(), odd, 5], odd, odd), (InvalidBatches, 1), repr(odd))
                self.assertEqual(raised(ask, None, odd, odd), (InvalidState, 0), repr(odd))
                self.assertEqual(raised(ask, None, lot("ab"), odd), (InvalidState, 1), repr(odd))
            for odd in (True, 0, "ab", {()}, Weird()) if has_batches else ():
                self.assertEqual(raised(ask, odd, None, None), (InvalidBatches, 0), repr(odd))
            self.assertEqual(raised(ask, None, lot("ab"), lot("abc")), (NotAllowed, 0))
            self.assertEqual(raised(ask, None, (), lot("ab")), (NotAllowed, 1))


if __name__ == "__main__":
    unittest.main()
