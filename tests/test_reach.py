"""[31]: what is reached, with how few changes, and what shows it."""

import random
import unittest

from stopsfirst.plans import checked_plan, plan_changes, wrong_change
from stopsfirst.reach import distances, shortest_plan, shows_far, shows_unreached
from stopsfirst.rulebooks import Rulebook
from tests import helper
from tests.helper import Weird, lot, lots

FREE = Rulebook(lot("ab"), [])
CLASH = Rulebook(lot("abc"), [("imply", lot("ab"), ())])
BOOKS = [told for told in helper.random_books(161, 40) if helper.allowed(*told)]
SMALL = [told for told in helper.random_books(162, 30, "abc") if helper.allowed(*told)]


def questions(books, seed, many):
    """Rulebooks with batches and a start: (book, states, batches, start)."""
    chance = random.Random(seed)
    for services, rules in books:
        states = helper.allowed(services, rules)
        for batches in helper.random_batches(seed, services, many):
            yield Rulebook(services, rules), states, batches, chance.choice(states)


class DistanceTest(unittest.TestCase):
    def test_distances(self):
        found = set()
        for book, states, batches, start in questions(BOOKS, 163, 9):
            for stops in (False, True):
                told = helper.reached(states, start, batches, stops)
                self.assertEqual(distances(book, start, batches, stops=stops), tuple(sorted(told.items())))
                found.update((stops, number) for number in told.values())
            self.assertEqual(distances(book, start, batches), distances(book, start, batches, stops=False))
        self.assertLessEqual({(False, 0), (False, 1), (False, 2), (False, 3), (True, 0), (True, 1)}, found)

    def test_by_hand(self):
        ones = lots("a b c")
        self.assertEqual(distances(CLASH, lot("a"), ones), (
            ((), 1), (lot("a"), 0), (lot("ac"), 1), (lot("b"), 1), (lot("bc"), 2), (lot("c"), 1)))
        self.assertEqual(distances(CLASH, lot("a"), ones, stops=True), (
            ((), 1), (lot("a"), 0), (lot("ac"), 0), (lot("b"), 1), (lot("bc"), 1), (lot("c"), 1)))
        self.assertEqual(distances(batches=[], start=lot("a"), book=CLASH), (((), 1), (lot("a"), 0)))
        self.assertEqual(distances(CLASH, (), None), tuple((x, 1 if x else 0) for x in CLASH.states()))
        self.assertEqual(distances(CLASH, (), None, stops=True), tuple((x, 0) for x in CLASH.states()))

    def test_a_long_way(self):
        row = lots("- a ab bc cd acd abcd")
        book = Rulebook(lot("abcd"), [("table", lot("abcd"), row)])
        ones = lots("a b c d")
        counted = (0, 0, 0, 1, 2, 2, 2)
        told = helper.reached(sorted(row), (), ones)
        self.assertEqual(told, {state: number for number, state in enumerate(row)})
        self.assertEqual(distances(book, (), ones), tuple(sorted(told.items())))
        self.assertEqual(distances(book, (), ones, stops=True), tuple(sorted(zip(row, counted))))
        for stops in (False, True):
            self.assertEqual(shortest_plan(book, (), lot("abcd"), ones, stops=stops), row)
            value = distances(book, (), ones, stops=stops)
            for number in range(9):
                shown = shows_far(book, (), lot("abcd"), number, ones, value, stops=stops)
                self.assertIs(shown, number <= (2 if stops else 6))

    def test_batches_in_any_form(self):
        told = distances(CLASH, lot("a"), [lot("c"), (), lot("b"), lot("c"), lot("a")])
        self.assertEqual(told, distances(CLASH, lot("a"), lots("a b c")))


class PlanTest(unittest.TestCase):
    def test_shortest_plan(self):
        found = set()
        for book, states, batches, start in questions(BOOKS, 164, 7):
            for stops in (False, True):
                numbers = helper.reached(states, start, batches, stops)
                for goal in states:
                    plan = shortest_plan(book, start, goal, batches, stops=stops)
                    found.add(goal in numbers)
                    if goal not in numbers:
                        self.assertIsNone(plan)
                        continue
                    self.assertEqual(checked_plan(book, plan), plan)
                    self.assertEqual((plan[0], plan[-1]), (start, goal))
                    self.assertIsNone(wrong_change(book, plan, batches))
                    self.assertEqual(len(set(plan)), len(plan))
                    counted = [stopped for stopped, _ in plan_changes(book, plan) if stopped or not stops]
                    self.assertEqual(len(counted), numbers[goal])
        self.assertEqual(found, {True, False})

    def test_fewer_changes_or_fewer_stops(self):
        book = Rulebook(lot("abcde"), [("table", lot("abcde"), lots("a ab abd abcd bce"))])
        batches = lots("ad bce")
        self.assertEqual(shortest_plan(book, lot("a"), lot("abcd"), batches), lots("a bce abcd"))
        self.assertEqual(shortest_plan(book, lot("a"), lot("abcd"), batches, stops=True), lots("a ab abd abcd"))
        self.assertEqual(dict(distances(book, lot("a"), batches))[lot("abcd")], 2)
        self.assertEqual(dict(distances(book, lot("a"), batches, stops=True))[lot("abcd")], 0)

    def test_by_hand(self):
        self.assertEqual(shortest_plan(CLASH, lot("a"), lot("a"), []), lots("a"))
        self.assertEqual(shortest_plan(CLASH, lot("a"), lot("a"), [], stops=True), lots("a"))
        self.assertEqual(shortest_plan(CLASH, lot("a"), lot("b"), None), lots("a b"))
        self.assertEqual(shortest_plan(batches=lots("b c"), goal=(), start=lot("a"), book=CLASH), lots("a -"))
        self.assertIsNone(shortest_plan(CLASH, lot("a"), lot("b"), [lot("c")]))
        self.assertEqual(len(shortest_plan(CLASH, lot("a"), lot("bc"), lots("b c"))), 3)


class UnreachedTest(unittest.TestCase):
    def by_words(self, states, start, goal, batches, value):
        return start in value and goal not in value and all(
            b in value for a in value for b in states if helper.fits(batches, helper.minus(b, a)))

    def test_all_sets_of_states(self):
        found = set()
        for book, states, batches, start in questions(SMALL, 165, 7):
            if len(states) > 6:
                continue
            for chosen in range(1 << len(states)):
                value = [state for k, state in enumerate(states) if chosen >> k & 1]
                for goal in states:
                    told = self.by_words(states, start, goal, batches, value)
                    self.assertIs(shows_unreached(book, start, goal, batches, value), told)
                    found.add(told)
        self.assertEqual(found, {True, False})

    def test_what_is_reached_shows_it(self):
        for book, states, batches, start in questions(BOOKS, 166, 6):
            value = [state for state, _ in distances(book, start, batches)]
            for goal in states:
                told = goal not in value
                for form in (value, tuple(value), value[::-1], value + value[:2]):
                    self.assertIs(shows_unreached(book, start, goal, batches, form), told)

    def test_spoilt_values(self):
        good = ((), lot("a"))
        self.assertIs(shows_unreached(value=good, batches=[], goal=lot("b"), start=lot("a"), book=FREE), True)
        self.assertIs(shows_unreached(FREE, lot("a"), lot("b"), [], list(good)), True)
        for odd in helper.ODD_VALUES + (["a"], lot("z"), Weird(), (Weird(),)):
            self.assertIs(shows_unreached(FREE, lot("a"), lot("b"), [], good + (odd,)), False, repr(odd))
            self.assertIs(shows_unreached(FREE, lot("a"), lot("b"), [], [odd] + list(good)), False, repr(odd))
        for value in helper.ODD_VALUES + (set(good), dict.fromkeys(good), iter(good), Weird(), good[:1], good[1:], ()):
            self.assertIs(shows_unreached(FREE, lot("a"), lot("b"), [], value), False, repr(value))
        self.assertIs(shows_unreached(CLASH, (), lot("c"), [], ((), lot("ab"))), False)
        self.assertIs(shows_unreached(CLASH, (), lot("c"), [], ((), lot("a"))), True)

    def test_start_and_goal_the_same(self):
        for value in ((), lots("a"), lots("- a"), FREE.states()):
            self.assertIs(shows_unreached(FREE, lot("a"), lot("a"), [], value), False)


class FarTest(unittest.TestCase):
    def by_words(self, states, start, goal, number, batches, value, stops):
        told = dict(value)
        if told.get(start) != 0 or (goal in told and told[goal] < number):
            return False
        for a in told:
            for b in states:
                if helper.fits(batches, helper.minus(b, a)):
                    most = told[a] + (0 if stops and helper.part(a, b) else 1)
                    if b not in told or told[b] > most:
                        return False
        return True

    def test_random_values(self):
        chance = random.Random(167)
        found = set()
        for book, states, batches, start in questions(SMALL + BOOKS[:10], 168, 7):
            for stops in (False, True):
                numbers = helper.reached(states, start, batches, stops)
                for _ in range(8):
                    value = [[state, numbers[state]] for state in numbers]
                    for _ in range(chance.randrange(3)):
                        pair = chance.choice(value)
                        pair[1] = max(0, pair[1] + chance.choice((-1, 1)))
                    value = [tuple(pair) for pair in value if chance.random() < 0.97]
                    if chance.random() < 0.3:
                        value += [(state, chance.randrange(4)) for state in states if state not in dict(value)]
                    chance.shuffle(value)
                    for goal in states:
                        number = chance.randrange(4)
                        told = self.by_words(states, start, goal, number, batches, value, stops)
                        self.assertIs(shows_far(book, start, goal, number, batches, value, stops=stops), told)
                        found.add((stops, told))
        self.assertEqual(len(found), 4)

    def test_distances_show_it(self):
        for book, states, batches, start in questions(BOOKS, 169, 6):
            for stops in (False, True):
                value = distances(book, start, batches, stops=stops)
                numbers = dict(value)
                for goal in states:
                    for number in range(5):
                        told = goal not in numbers or numbers[goal] >= number
                        self.assertIs(shows_far(book, start, goal, number, batches, value, stops=stops), told)
                        self.assertIs(shows_far(book, start, goal, number, batches, list(value)[::-1], stops=stops), told)

    def test_by_hand(self):
        ones = lots("a b")
        value = (((), 1), (lot("a"), 0), (lot("ab"), 1), (lot("b"), 1))
        ask = [FREE, lot("a"), lot("b"), 1, ones]
        self.assertIs(shows_far(*ask, value), True)
        self.assertIs(shows_far(*ask, value, stops=False), True)
        self.assertIs(shows_far(*ask, value, stops=True), False)
        self.assertIs(shows_far(FREE, lot("a"), lot("b"), 2, ones, value), False)
        self.assertIs(shows_far(FREE, lot("a"), lot("b"), 0, ones, value), True)
        free = (((), 1), (lot("a"), 0), (lot("ab"), 0), (lot("b"), 1))
        self.assertIs(shows_far(*ask, free, stops=True), True)
        self.assertIs(shows_far(*ask, free), True)
        self.assertIs(shows_far(*ask, ((lot("a"), 0),)), False)
        self.assertIs(shows_far(FREE, lot("a"), lot("b"), 9, [], ((lot("a"), 0), ((), 1))), True)
        self.assertIs(shows_far(FREE, lot("a"), lot("b"), 9, [], ((lot("a"), 0), ((), 2))), False)
        self.assertIs(shows_far(FREE, lot("a"), lot("b"), 9, [], ((lot("a"), 1), ((), 2))), False)
        self.assertIs(shows_far(FREE, lot("a"), lot("a"), 0, [], ((lot("a"), 0), ((), 1))), True)
        self.assertIs(shows_far(FREE, lot("a"), lot("a"), 1, [], ((lot("a"), 0), ((), 1))), False)
        self.assertIs(shows_far(value=value, batches=ones, number=1, goal=lot("b"), start=lot("a"), book=FREE), True)

    def test_spoilt_values(self):
        good = ((lot("a"), 0), ((), 1))
        ask = [FREE, lot("a"), lot("b"), 5, []]
        self.assertIs(shows_far(*ask, good), True)
        self.assertIs(shows_far(*ask, list(good)), True)
        for pair in (
            [(), 1], ((),), ((), 1, 1), ((), True), ((), False), ((), -1), ((), None), ((), "1"), ((), 1.0), (1, ()),
            ([], 1), (None, 1), ("", 1), (lot("z"), 1), (["a"], 1), (Weird(), 1), ((), Weird()), Weird(), (), None, 5,
            ((), []), ("ab", 1), "ab", (("a", "a"), 1),
        ):
            self.assertIs(shows_far(*ask, (good[0], pair)), False, repr(pair))
            self.assertIs(shows_far(*ask, (pair,) + good), False, repr(pair))
        for value in helper.ODD_VALUES + (set(good), dict(good), iter(good), Weird(), good[:1], good[1:], ()):
            self.assertIs(shows_far(*ask, value), False, repr(value))
        for value in (good + good[:1], good + ((lot("a"), 1),), ((lot("a"), 1),) + good, good + good[1:]):
            self.assertIs(shows_far(*ask, value), False, repr(value))
        self.assertIs(shows_far(CLASH, (), lot("c"), 1, [], (((), 0), (lot("ab"), 1))), False)


class ErrorTest(unittest.TestCase):
    def asks(self):
        """Functions of a rulebook, the states, and batches; with how many states."""
        yield 1, lambda start, batches: distances(CLASH, start, batches)
        yield 1, lambda start, batches: distances(CLASH, start, batches, stops=True)
        yield 2, lambda start, goal, batches: shortest_plan(CLASH, start, goal, batches)
        yield 2, lambda start, goal, batches: shows_unreached(CLASH, start, goal, batches, None)
        yield 2, lambda start, goal, batches: shows_far(CLASH, start, goal, 1, batches, None)

    def test_states_then_batches(self):
        for many, ask in self.asks():
            helper.check_states_then_batches(self, ask, many)

    def test_stops_is_passed_by_keyword(self):
        self.assertRaises(TypeError, distances, FREE, (), None, True)
        self.assertRaises(TypeError, shortest_plan, FREE, (), (), None, True)
        self.assertRaises(TypeError, shows_far, FREE, (), (), 1, None, (), True)


if __name__ == "__main__":
    unittest.main()
