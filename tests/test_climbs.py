"""[30]: climbs from a state, and the errors of chapter 6."""

import itertools
import unittest

from stopsfirst.climbs import climb_above, climb_plan, tops
from stopsfirst.errors import InvalidBatches, InvalidState, NotAllowed, Refused
from stopsfirst.plans import checked_plan, wrong_change
from stopsfirst.rulebooks import Rulebook
from tests import helper
from tests.helper import Weird, lot, lots, raised

FREE = Rulebook(lot("abcd"), [])
CLASH = Rulebook(lot("abc"), [("imply", lot("ab"), ())])
BOOKS = [told for told in helper.random_books(151, 40) if helper.allowed(*told)]
SMALL = [told for told in helper.random_books(152, 30, "abc") if helper.allowed(*told)]


class TopsTest(unittest.TestCase):
    def test_tops(self):
        for services, rules in BOOKS:
            book = Rulebook(services, rules)
            states = helper.allowed(services, rules)
            for at, batches in enumerate(helper.random_batches(153, services, 8)):
                for start in states[at % 2::2]:
                    self.assertEqual(tops(book, start, batches), helper.tops(states, start, batches))

    def test_by_hand(self):
        self.assertEqual(tops(FREE, lot("a"), None), lots("abcd"))
        self.assertEqual(tops(FREE, lot("a"), []), lots("a"))
        self.assertEqual(tops(FREE, lot("a"), [()]), lots("a"))
        self.assertEqual(tops(batches=lots("b c"), start=lot("a"), book=FREE), lots("abc"))
        self.assertEqual(tops(CLASH, lot("a"), lots("b c")), lots("ac bc"))
        self.assertEqual(tops(CLASH, lot("a"), lots("c")), lots("ac"))
        self.assertEqual(tops(CLASH, lot("b"), lots("c")), lots("bc"))
        alone = Rulebook(lot("ab"), [("table", lot("ab"), lots("a b"))])
        self.assertEqual(tops(alone, lot("a"), None), lots("a"))

    def test_batches_in_any_form(self):
        for batches in ([lot("c"), lot("b"), (), lot("b")], lots("b c"), [lot("b"), lot("c")]):
            self.assertEqual(tops(CLASH, lot("a"), batches), lots("ac bc"))


class ClimbAboveTest(unittest.TestCase):
    def test_climb_above(self):
        found = set()
        for services, rules in BOOKS[:24]:
            book = Rulebook(services, rules)
            states = helper.allowed(services, rules)
            for batches in helper.random_batches(154, services, 7):
                for start in states:
                    ends = helper.climb_ends(states, start, batches)
                    for goal in states:
                        numbers = [ends[end] for end in ends if helper.part(goal, end)]
                        climb = climb_above(book, start, goal, batches)
                        found.add(min(numbers) if numbers else None)
                        if not numbers:
                            self.assertIsNone(climb)
                            continue
                        self.check(book, climb, start, goal, batches)
                        self.assertEqual(len(climb) - 1, min(numbers))
        self.assertLessEqual({None, 0, 1, 2, 3}, found)

    def check(self, book, climb, start, goal, batches):
        self.assertEqual(checked_plan(book, climb), climb)
        self.assertTrue(helper.part(climb[0], start))
        self.assertTrue(helper.part(goal, climb[-1]))
        self.assertIsNone(wrong_change(book, climb, batches))
        self.assertTrue(all(helper.proper(a, b) for a, b in zip(climb, climb[1:])))

    def test_by_hand(self):
        self.assertEqual(climb_above(FREE, lot("ab"), lot("a"), [])[1:], ())
        self.assertEqual(len(climb_above(FREE, lot("ab"), (), [])), 1)
        self.assertEqual(climb_above(FREE, (), lot("ab"), lots("a b"))[::2], ((), lot("ab")))
        self.assertEqual(climb_above(batches=lots("b c"), goal=lot("bc"), start=lot("a"), book=CLASH)[0], ())
        self.assertIsNone(climb_above(CLASH, lot("a"), lot("b"), lots("c")))


class ClimbPlanTest(unittest.TestCase):
    def fault(self, states, start, goal, climb):
        for at, state in enumerate(climb):
            if state not in states or (at == 0 and not helper.part(state, start)):
                return at
            if at and not helper.proper(climb[at - 1], state):
                return at
            if at == len(climb) - 1 and not helper.part(goal, state):
                return at
        return None if climb else 0

    def plan_by_words(self, start, goal, climb):
        told = (start,) + (climb[1:-1] if len(climb) > 2 else ()) + (goal,)
        return tuple(state for at, state in enumerate(told) if not at or state != told[at - 1])

    def test_all_sequences(self):
        found = set()
        for services, rules in SMALL:
            book = Rulebook(services, rules)
            states = helper.allowed(services, rules)
            for start, goal in itertools.islice(itertools.product(states, repeat=2), 0, None, 7):
                for many in range(4):
                    for climb in itertools.islice(itertools.product(helper.all_lots(services), repeat=many), 0, None, 3):
                        at = self.fault(states, start, goal, climb)
                        if at is None:
                            told = self.plan_by_words(start, goal, climb)
                            self.assertEqual(climb_plan(book, start, goal, list(climb)), told)
                        else:
                            self.assertEqual(raised(climb_plan, book, start, goal, climb), (Refused, at))
                        found.add(at)
        self.assertEqual(found, {None, 0, 1, 2})

    def test_by_hand(self):
        self.assertEqual(climb_plan(FREE, lot("ab"), lot("a"), [lot("ab")]), lots("ab a"))
        self.assertEqual(climb_plan(FREE, lot("ab"), lot("ab"), [lot("ab")]), lots("ab"))
        self.assertEqual(climb_plan(FREE, lot("ab"), lot("ac"), lots("a abc")), lots("ab ac"))
        self.assertEqual(climb_plan(FREE, lot("ab"), lot("ab"), lots("a abc")), lots("ab"))
        self.assertEqual(climb_plan(FREE, lot("ab"), lot("cd"), lots("a ac acd")), lots("ab ac cd"))
        self.assertEqual(climb_plan(FREE, lot("ab"), lot("cd"), lots("- c ac acd")), lots("ab c ac cd"))
        self.assertEqual(climb_plan(FREE, lot("ab"), lot("ac"), lots("- a ac acd")), lots("ab a ac"))
        self.assertEqual(climb_plan(FREE, lot("ab"), lot("bc"), lots("a ab abc abcd")), lots("ab abc bc"))
        self.assertEqual(climb_plan(climb=lots("- a"), goal=lot("a"), start=(), book=FREE), lots("- a"))

    def test_wrong_climbs(self):
        for climb, at in (
            ([], 0), ((), 0), (lots("c"), 0), (lots("a"), 0), (lots("ab"), None), (lots("ab ab"), 1), (lots("a ab"), None),
            (lots("ab a"), 1), (lots("a c"), 1), (lots("a ab ab"), 2), (lots("a ac"), 1), (lots("a ac acd"), 2),
            (lots("a ac z"), 2), (lots("z"), 0), (lots("a ab z"), 2), (lots("c ac abc"), 0), (lots("a ab abc"), None),
            (lots("a ad ac z"), 2), (lots("- a a z"), 2),
        ):
            told = raised(climb_plan, FREE, lot("ab"), lot("b"), climb)
            self.assertEqual(told, None if at is None else (Refused, at), climb)

    def test_spoilt_climbs(self):
        for value in (None, True, False, 0, 5, "", "abc", {}, {()}, object(), iter([()]), Weird(), b"a", {(): 1}):
            self.assertEqual(raised(climb_plan, CLASH, lot("a"), (), value), (Refused, 0), repr(value))
        for odd in helper.ODD_VALUES + (["a"], Weird(), (Weird(),), lot("ab"), lot("abc")):
            self.assertEqual(raised(climb_plan, CLASH, lot("a"), (), [odd, None]), (Refused, 0), repr(odd))
            self.assertEqual(raised(climb_plan, CLASH, lot("a"), (), [(), odd, None]), (Refused, 1), repr(odd))
            self.assertEqual(raised(climb_plan, CLASH, lot("a"), (), [(), lot("c"), odd]), (Refused, 2), repr(odd))

    def test_climbs_that_fit_give_plans_that_fit(self):
        for services, rules in BOOKS:
            book = Rulebook(services, rules)
            states = helper.allowed(services, rules)
            for batches in helper.random_batches(155, services, 8)[3:]:
                for start in states[::2]:
                    for goal in states[::2]:
                        climb = climb_above(book, start, goal, batches)
                        if climb is not None:
                            plan = climb_plan(book, start, goal, climb)
                            self.assertIsNone(wrong_change(book, plan, batches))
                            self.assertEqual((plan[0], plan[-1]), (start, goal))

    def test_arguments_stay(self):
        climb = [lot("a"), lot("ab"), lot("abc")]
        plan = climb_plan(FREE, lot("ab"), lot("c"), climb)
        self.assertEqual(climb, [lot("a"), lot("ab"), lot("abc")])
        climb.clear()
        self.assertEqual(plan, lots("ab c"))


class ErrorTest(unittest.TestCase):
    def test_states_then_batches(self):
        good = lot("a")
        forbidden = lot("ab")
        for batches in (None, 5, [None], [lot("z")]):
            for odd in helper.ODD_VALUES + (["a"], lot("ae"), Weird()):
                self.assertEqual(raised(tops, CLASH, odd, batches), (InvalidState, 0), repr(odd))
                self.assertEqual(raised(climb_above, CLASH, odd, forbidden, batches), (InvalidState, 0), repr(odd))
                self.assertEqual(raised(climb_above, CLASH, forbidden, odd, batches), (InvalidState, 1), repr(odd))
                self.assertEqual(raised(climb_plan, CLASH, odd, odd, batches), (InvalidState, 0), repr(odd))
                self.assertEqual(raised(climb_plan, CLASH, forbidden, odd, batches), (InvalidState, 1), repr(odd))
            self.assertEqual(raised(tops, CLASH, forbidden, batches), (NotAllowed, 0))
            for ask in (climb_above, climb_plan):
                self.assertEqual(raised(ask, CLASH, forbidden, forbidden, batches), (NotAllowed, 0))
                self.assertEqual(raised(ask, CLASH, good, forbidden, batches), (NotAllowed, 1))
        for value in (True, False, 0, "", "ab", {}, {()}, object(), Weird()):
            self.assertEqual(raised(tops, CLASH, good, value), (InvalidBatches, 0), repr(value))
            self.assertEqual(raised(climb_above, CLASH, good, good, value), (InvalidBatches, 0), repr(value))
        for odd in helper.ODD_VALUES + (["a"], lot("ae"), Weird()):
            self.assertEqual(raised(tops, CLASH, good, [(), odd, 5]), (InvalidBatches, 1), repr(odd))
            self.assertEqual(raised(climb_above, CLASH, good, good, [(), odd, 5]), (InvalidBatches, 1), repr(odd))


if __name__ == "__main__":
    unittest.main()
