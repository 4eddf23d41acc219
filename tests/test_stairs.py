"""[32] and [33]: tops and stairs, and what they tell of bendable rulebooks."""

import itertools
import random
import unittest

from stopsfirst.climbs import tops
from stopsfirst.errors import InvalidBatches, InvalidState, NotAllowed, NotBendable
from stopsfirst.plans import checked_plan, wrong_change
from stopsfirst.reach import distances
from stopsfirst.rulebooks import Rulebook
from stopsfirst.stairs import beyond_tops, reach_answer, shows_outside, shows_steps, stairs
from tests import helper
from tests.helper import Weird, lot, lots, raised

FREE = Rulebook(lot("abc"), [])
CLASH = Rulebook(lot("abc"), [("imply", lot("ab"), ())])
TORN = Rulebook(lot("ab"), [("table", lot("ab"), lots("a b"))])
BOOKS = [told for told in helper.random_books(171, 40) if helper.allowed(*told)]
SMALL = [told for told in helper.random_books(172, 30, "abc") if helper.allowed(*told)]
BENDABLE = helper.bendable_books(173, 60)


def covers(told, state):
    return any(helper.part(state, other) for other in told)


def does_follow(states, batches, before, behind):
    """Whether `behind` follows `before`, word by word."""
    for b in states:
        for a in states:
            if helper.part(a, b) and covers(before, a) and helper.fits(batches, helper.minus(b, a)):
                if not covers(behind, b):
                    return False
    return True


def questions(books, seed, many):
    for services, rules in books:
        states = helper.allowed(services, rules)
        for at, batches in enumerate(helper.random_batches(seed, services, many)):
            yield Rulebook(services, rules), states, batches, states[at % len(states)]


def single_questions(books):
    """The same with batches of one service, for each start: much is far away then."""
    for services, rules in books:
        states = helper.allowed(services, rules)
        for start in states:
            yield Rulebook(services, rules), states, tuple((name,) for name in services), start


class BeyondTest(unittest.TestCase):
    def test_beyond_tops(self):
        found = set()
        for book, states, batches, start in questions(BOOKS, 174, 8):
            reached = helper.reached(states, start, batches)
            highest = helper.tops(states, start, batches)
            told = tuple(state for state in sorted(reached) if not covers(highest, state))
            self.assertEqual(beyond_tops(book, start, batches), told)
            found.add(bool(told))
        self.assertEqual(found, {True, False})

    def test_bendable_rulebooks(self):
        for book, states, batches, start in questions(BENDABLE, 175, 8):
            self.assertEqual(beyond_tops(book, start, batches), ())
            told = tuple(state for state in states if covers(tops(book, start, batches), state))
            self.assertEqual(tuple(state for state, _ in distances(book, start, batches)), told)

    def test_locked_changes(self):
        locked = 0
        for services, rules in BOOKS:
            states = helper.allowed(services, rules)
            for a in states:
                for b in states:
                    if helper.is_locked(states, a, b):
                        locked += 1
                        told = beyond_tops(Rulebook(services, rules), a, [helper.minus(b, a)])
                        self.assertIn(b, told)
        self.assertGreater(locked, 20)

    def test_by_hand(self):
        self.assertEqual(beyond_tops(batches=None, start=lot("a"), book=TORN), lots("b"))
        self.assertEqual(beyond_tops(TORN, lot("a"), [lot("a")]), ())
        self.assertEqual(beyond_tops(FREE, (), None), ())


class AnswerTest(unittest.TestCase):
    def test_bendable_rulebooks(self):
        found = set()
        for book, states, batches, start in questions(BENDABLE, 176, 8):
            reached = helper.reached(states, start, batches)
            ends = helper.climb_ends(states, start, batches)
            for goal in states:
                word, told = reach_answer(book, start, goal, batches)
                found.add(word)
                self.assertEqual(word, "plan" if goal in reached else "tops")
                if word == "tops":
                    self.assertEqual(told, helper.tops(states, start, batches))
                    continue
                self.assertEqual(checked_plan(book, told), told)
                self.assertEqual((told[0], told[-1]), (start, goal))
                self.assertIsNone(wrong_change(book, told, batches))
                most = min(ends[end] for end in ends if helper.part(goal, end))
                self.assertLessEqual(len(told) - 1, max(most, 1))
        self.assertEqual(found, {"plan", "tops"})

    def test_other_rulebooks(self):
        for services, rules in BOOKS:
            states = helper.allowed(services, rules)
            if not helper.is_bendable(states):
                told = raised(reach_answer, Rulebook(services, rules), states[0], states[-1], None)
                self.assertEqual(told, (NotBendable,))

    def test_by_hand(self):
        self.assertEqual(reach_answer(CLASH, lot("a"), lot("b"), lots("b")), ("plan", lots("a b")))
        self.assertEqual(reach_answer(CLASH, lot("a"), lot("b"), []), ("tops", lots("a")))
        self.assertEqual(reach_answer(CLASH, lot("a"), lot("a"), []), ("plan", lots("a")))
        self.assertEqual(reach_answer(batches=[], goal=(), start=lot("a"), book=CLASH), ("plan", lots("a -")))
        self.assertEqual(raised(reach_answer, TORN, lot("a"), lot("a"), None), (NotBendable,))


class OutsideTest(unittest.TestCase):
    def by_words(self, states, start, goal, batches, value):
        return covers(value, start) and not covers(value, goal) and does_follow(states, batches, value, value)

    def test_all_sets_of_states(self):
        found = set()
        for book, states, batches, start in questions(SMALL, 177, 7):
            if len(states) > 6:
                continue
            for chosen in range(1 << len(states)):
                value = [state for k, state in enumerate(states) if chosen >> k & 1]
                for goal in states:
                    told = self.by_words(states, start, goal, batches, value)
                    self.assertIs(shows_outside(book, start, goal, batches, value), told)
                    found.add(told)
        self.assertEqual(found, {True, False})

    def test_tops_show_it_in_bendable_rulebooks(self):
        for book, states, batches, start in questions(BENDABLE, 178, 6):
            value = tops(book, start, batches)
            reached = helper.reached(states, start, batches)
            for goal in states:
                for form in (value, list(value), value[::-1], value + value):
                    self.assertIs(shows_outside(book, start, goal, batches, form), goal not in reached)

    def test_by_hand(self):
        self.assertIs(shows_outside(CLASH, lot("a"), lot("b"), [lot("c")], [lot("ac")]), True)
        self.assertIs(shows_outside(CLASH, lot("a"), lot("b"), [lot("c")], [lot("a")]), False)
        self.assertIs(shows_outside(CLASH, lot("a"), lot("c"), [lot("c")], [lot("ac")]), False)
        self.assertIs(shows_outside(CLASH, lot("a"), lot("b"), [lot("b")], [lot("a")]), False)
        self.assertIs(shows_outside(CLASH, lot("a"), lot("c"), [lot("b")], lots("a b")), True)
        self.assertIs(shows_outside(value=lots("a"), batches=[], goal=lot("b"), start=(), book=CLASH), True)
        self.assertIs(shows_outside(CLASH, lot("a"), lot("a"), [], lots("a")), False)
        self.assertIs(shows_outside(CLASH, lot("a"), lot("b"), [], lots("c")), False)

    def test_spoilt_values(self):
        ask = [CLASH, lot("a"), lot("b"), [lot("c")]]
        good = lots("a ac")
        self.assertIs(shows_outside(*ask, good), True)
        for odd in helper.ODD_VALUES + (["a"], lot("z"), Weird(), (Weird(),), lot("ab")):
            self.assertIs(shows_outside(*ask, good + (odd,)), False, repr(odd))
            self.assertIs(shows_outside(*ask, [odd] + list(good)), False, repr(odd))
        for value in helper.ODD_VALUES + (set(good), dict.fromkeys(good), iter(good), Weird(), good[:1], (), lot("ac")):
            self.assertIs(shows_outside(*ask, value), False, repr(value))


class StairsTest(unittest.TestCase):
    def by_words(self, states, start, batches):
        ends = helper.climb_ends(states, start, batches)
        last = helper.greatest(list(ends))
        entries = []
        while not entries or entries[-1] != last:
            entries.append(helper.greatest([end for end in ends if ends[end] <= len(entries)]))
        return tuple(entries)

    def test_stairs(self):
        lengths = set()
        for book, states, batches, start in questions(BOOKS, 179, 8):
            told = stairs(book, start, batches)
            self.assertEqual(told, self.by_words(states, start, batches))
            self.assertEqual(told[-1], tops(book, start, batches))
            lengths.add(len(told))
        self.assertLessEqual({1, 2, 3}, lengths)

    def test_distances_in_bendable_rulebooks(self):
        for book, states, batches, start in [*questions(BENDABLE, 180, 8), *single_questions(BENDABLE)]:
            told = stairs(book, start, batches)
            for state, number in distances(book, start, batches):
                if state != start:
                    least = [i for i in range(1, len(told)) if covers(told[i], state)]
                    self.assertEqual(number, least[0] if least else 1)
                    self.assertLessEqual(number, 4)
            for _, number in distances(book, start, batches, stops=True):
                self.assertLessEqual(number, 2)

    def test_by_hand(self):
        self.assertEqual(stairs(CLASH, lot("a"), lots("b c")), (lots("a"), lots("ac b"), lots("ac bc")))
        self.assertEqual(stairs(FREE, lot("a"), None), (lots("a"), lots("abc")))
        self.assertEqual(stairs(batches=[], start=lot("ab"), book=FREE), (lots("ab"),))
        self.assertEqual(stairs(FREE, (), lots("a b c")), (lots("-"), lots("a b c"), lots("ab ac bc"), lots("abc")))
        self.assertEqual(stairs(FREE, lot("abc"), None), (lots("abc"),))


class StepsTest(unittest.TestCase):
    def by_words(self, states, start, goal, batches, value):
        return (covers(value[0], start) and not any(covers(told, goal) for told in value)
                and all(does_follow(states, batches, a, b) for a, b in zip(value, value[1:])))

    def test_random_values(self):
        chance = random.Random(181)
        found = set()
        for book, states, batches, start in [*questions(SMALL, 182, 7), *single_questions(BENDABLE[:20])]:
            told = stairs(book, start, batches)
            for _ in range(3):
                value = [list(entry) for entry in told[:chance.randrange(1, len(told) + 1)]]
                for entry in value:
                    if chance.random() < 0.3:
                        entry.append(chance.choice(states))
                    if chance.random() < 0.2:
                        entry.pop(chance.randrange(len(entry)))
                for goal in states:
                    right = self.by_words(states, start, goal, batches, value)
                    self.assertIs(shows_steps(book, start, goal, batches, value), right)
                    found.add((right, len(value)))
        self.assertLessEqual({(True, 1), (True, 2), (True, 3), (False, 1), (False, 2), (False, 3)}, found)

    def test_small_values(self):
        book = Rulebook(lot("ab"), [])
        states = book.states()
        subsets = [[s for k, s in enumerate(states) if chosen >> k & 1] for chosen in range(16)]
        for batches in (None, [], lots("a"), lots("a b"), lots("ab")):
            for start in states:
                for goal in states:
                    for many in (1, 2):
                        for value in itertools.product(subsets, repeat=many):
                            right = self.by_words(states, start, goal, batches, value)
                            self.assertIs(shows_steps(book, start, goal, batches, value), right)

    def test_stairs_show_distances(self):
        shown = 0
        for book, states, batches, start in [*questions(BENDABLE, 183, 8), *single_questions(BENDABLE)]:
            told = stairs(book, start, batches)
            for goal, number in distances(book, start, batches):
                if number >= 2:
                    shown += 1
                    self.assertIs(shows_steps(book, start, goal, batches, told[:number]), True)
                    turned = [entry[::-1] + entry[:1] for entry in told[:number]]
                    self.assertIs(shows_steps(book, start, goal, batches, turned), True)
                    self.assertIs(shows_steps(book, start, goal, batches, told[:number + 1]), number + 1 > len(told))
        self.assertGreater(shown, 50)

    def test_by_hand(self):
        ones = lots("b c")
        self.assertIs(shows_steps(CLASH, lot("a"), lot("bc"), ones, [lots("a"), lots("ac b")]), True)
        self.assertIs(shows_steps(CLASH, lot("a"), lot("bc"), ones, (lots("a"), lots("b ac b"))), True)
        self.assertIs(shows_steps(CLASH, lot("a"), lot("bc"), ones, [lots("a"), lots("b")]), False)
        self.assertIs(shows_steps(CLASH, lot("a"), lot("bc"), ones, [lots("a")]), True)
        self.assertIs(shows_steps(CLASH, lot("a"), lot("bc"), ones, [lots("ac b")]), True)
        self.assertIs(shows_steps(CLASH, lot("a"), lot("b"), ones, [lots("a"), lots("ac b")]), False)
        self.assertIs(shows_steps(CLASH, lot("a"), lot("bc"), ones, [lots("b"), lots("bc")]), False)
        self.assertIs(shows_steps(value=[lots("a")], batches=None, goal=lot("b"), start=lot("a"), book=CLASH), True)
        self.assertIs(shows_steps(CLASH, lot("a"), lot("a"), None, [lots("a")]), False)

    def test_spoilt_values(self):
        ask = [CLASH, lot("a"), lot("bc"), lots("b c")]
        good = (lots("a"), lots("ac b"))
        self.assertIs(shows_steps(*ask, good), True)
        self.assertIs(shows_steps(*ask, [list(entry) for entry in good]), True)
        for odd in helper.ODD_VALUES + (["a"], lot("z"), Weird(), (Weird(),), lot("ab")):
            self.assertIs(shows_steps(*ask, (good[0], good[1] + (odd,))), False, repr(odd))
            self.assertIs(shows_steps(*ask, ([odd, lot("a")], good[1])), False, repr(odd))
        for odd in (None, True, 0, "a", {}, set(good[1]), dict.fromkeys(good[1]), iter(good[1]), Weird(), lot("a"), ()):
            self.assertIs(shows_steps(*ask, good + (odd,)), False, repr(odd))
            self.assertIs(shows_steps(*ask, (odd,) + good), False, repr(odd))
        for value in helper.ODD_VALUES + (set(good), dict.fromkeys(good), iter(good), Weird(), (), [], [()], good[0]):
            self.assertIs(shows_steps(*ask, value), False, repr(value))


class ErrorTest(unittest.TestCase):
    def asks(self):
        yield 1, lambda start, batches: beyond_tops(CLASH, start, batches)
        yield 1, lambda start, batches: stairs(CLASH, start, batches)
        yield 2, lambda start, goal, batches: reach_answer(CLASH, start, goal, batches)
        yield 2, lambda start, goal, batches: shows_outside(CLASH, start, goal, batches, None)
        yield 2, lambda start, goal, batches: shows_steps(CLASH, start, goal, batches, None)

    def test_states_then_batches(self):
        for many, ask in self.asks():
            helper.check_states_then_batches(self, ask, many)

    def test_not_bendable_comes_last(self):
        self.assertEqual(raised(reach_answer, TORN, None, None, None), (InvalidState, 0))
        self.assertEqual(raised(reach_answer, TORN, lot("a"), lot("ab"), 5), (NotAllowed, 1))
        self.assertEqual(raised(reach_answer, TORN, lot("a"), lot("b"), 5), (InvalidBatches, 0))


if __name__ == "__main__":
    unittest.main()
