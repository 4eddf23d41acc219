"""[22], [23] and [24]: batches, slots and plans."""

import random
import unittest

from stopsfirst.errors import InvalidBatches, InvalidPlan
from stopsfirst.plans import (
    checked_batches, checked_plan, checked_slots, fits, kept_services, plan_changes, service_counts, used_services,
    wrong_change, wrong_slot,
)
from stopsfirst.rulebooks import Rulebook
from tests import helper
from tests.helper import Weird, lot, lots, raised

FREE = Rulebook(lot("abcd"), [])
CLASH = Rulebook(lot("abcd"), [("imply", lot("ab"), ())])
BOOKS = [told for told in helper.random_books(81, 40) if helper.allowed(*told)]
NO_LOTS = helper.ODD_VALUES + (["a"], lot("ae"), Weird(), (Weird(),))


class BatchesTest(unittest.TestCase):
    def test_checked_batches(self):
        for batches in helper.random_batches(82, "abcd", 120):
            told = None
            if batches is not None:
                told = tuple(batch for batch in helper.greatest(batches) if batch != ())
            self.assertEqual(checked_batches(FREE, batches), told)
            self.assertEqual(checked_batches(FREE, told), told)

    def test_by_hand(self):
        self.assertIsNone(checked_batches(FREE, None))
        self.assertEqual(checked_batches(FREE, []), ())
        self.assertEqual(checked_batches(FREE, [()]), ())
        self.assertEqual(checked_batches(FREE, [(), ()]), ())
        self.assertEqual(checked_batches(FREE, lots("b a b ab c c -")), lots("ab c"))
        self.assertEqual(checked_batches(FREE, list(lots("cd bd a"))), lots("a bd cd"))
        self.assertEqual(checked_batches(batches=[lot("a")], book=CLASH), lots("a"))

    def test_forbidden_lots_are_batches_too(self):
        self.assertEqual(checked_batches(CLASH, [lot("ab")]), lots("ab"))

    def test_twelve_batches(self):
        twelve = [lot(x + y) for x, y in ("ab", "ac", "ad", "bc", "bd", "cd")] + list(lots("a b c d a -"))
        self.assertEqual(checked_batches(FREE, twelve), lots("ab ac ad bc bd cd"))

    def test_errors(self):
        for value in (True, False, 0, 5, "", "ab", {}, {()}, {"a": 1}, object(), iter([]), Weird(), range(2), b"a"):
            self.assertEqual(raised(checked_batches, FREE, value), (InvalidBatches, 0), repr(value))
        for odd in NO_LOTS:
            self.assertEqual(raised(checked_batches, FREE, [odd]), (InvalidBatches, 0), repr(odd))
            self.assertEqual(raised(checked_batches, FREE, ((), lot("a"), odd, None)), (InvalidBatches, 2), repr(odd))
        self.assertEqual(raised(checked_batches, FREE, lot("ab")), (InvalidBatches, 0))

    def test_arguments_stay(self):
        batches = [lot("b"), (), lot("ab"), lot("b")]
        told = checked_batches(FREE, batches)
        self.assertEqual(batches, [lot("b"), (), lot("ab"), lot("b")])
        batches.clear()
        self.assertEqual(told, lots("ab"))


class FitsTest(unittest.TestCase):
    def test_fits(self):
        for batches in helper.random_batches(83, "abcd", 60):
            checked = checked_batches(FREE, batches)
            for told in helper.all_lots("abcde"):
                self.assertIs(fits(batches, told), helper.fits(batches, told))
                self.assertIs(fits(checked, told), helper.fits(batches, told))

    def test_edges(self):
        self.assertIs(fits(None, lot("abcd")), True)
        self.assertIs(fits((), ()), True)
        self.assertIs(fits([], lot("a")), False)
        self.assertIs(fits([()], lot("a")), False)
        self.assertIs(fits([()], ()), True)
        self.assertIs(fits(batches=lots("a bc"), lot=lot("ab")), False)
        self.assertIs(fits(lots("a bc"), lot("c")), True)


    def test_nothing_is_refused(self):
        for odd in NO_LOTS:
            self.assertIn(fits([odd], lot("a")), (True, False), repr(odd))
            self.assertIs(fits([odd, lot("ab")], lot("a")), True, repr(odd))
            self.assertIs(fits([odd], ()), True, repr(odd))


class SlotsTest(unittest.TestCase):
    def test_checked_slots(self):
        every = helper.random_batches(84, "abcd", 40)
        told = checked_slots(FREE, every)
        self.assertEqual(told, tuple(checked_batches(FREE, batches) for batches in every))
        self.assertEqual(checked_slots(FREE, told), told)
        self.assertEqual(checked_slots(FREE, []), ())
        self.assertEqual(checked_slots(FREE, ()), ())
        self.assertEqual(checked_slots(slots=[None, [], [()], [lot("a")]], book=FREE), (None, (), (), lots("a")))

    def test_errors(self):
        for value in (None, True, 0, "", "ab", {}, {()}, object(), Weird()):
            self.assertEqual(raised(checked_slots, FREE, value), (InvalidBatches, 0), repr(value))
        for odd in (True, 0, "ab", {}, object(), Weird(), lot("a"), [None], [lot("a"), ["b"]], ((), (), lot("z"))):
            self.assertEqual(raised(checked_slots, FREE, [odd]), (InvalidBatches, 0), repr(odd))
            self.assertEqual(raised(checked_slots, FREE, (None, [], odd, 5)), (InvalidBatches, 2), repr(odd))

    def test_two_hundred_slots(self):
        self.assertEqual(checked_slots(FREE, [[lot("b"), lot("a")]] * 200), (lots("a b"),) * 200)


class PlanTest(unittest.TestCase):
    def test_checked_plan(self):
        for services, rules in BOOKS:
            book = Rulebook(services, rules)
            for plan in helper.random_plans(85, book.states(), 10):
                self.assertEqual(checked_plan(book, plan), plan)
                self.assertEqual(checked_plan(book, list(plan)), plan)

    def test_edges(self):
        self.assertEqual(checked_plan(plan=[()], book=FREE), ((),))
        self.assertEqual(checked_plan(FREE, [lot("a")] * 200), (lot("a"),) * 200)
        plan = [lot("a"), lot("b")]
        told = checked_plan(FREE, plan)
        plan.append(None)
        self.assertEqual(told, lots("a b"))

    def test_errors(self):
        asks = (checked_plan, plan_changes, wrong_change, service_counts, used_services, kept_services,
                lambda book, plan: wrong_slot(book, plan, []), lambda book, plan: wrong_slot(book, plan, 5),
                lambda book, plan: wrong_change(book, plan, 5))
        for ask in asks:
            for value in ([], (), None, True, 0, 5, "", "ab", {}, {()}, {(): 1}, object(), iter([()]), Weird()):
                self.assertEqual(raised(ask, CLASH, value), (InvalidPlan, 0), repr(value))
            for odd in NO_LOTS + (lot("ab"), lot("abc")):
                self.assertEqual(raised(ask, CLASH, [odd]), (InvalidPlan, 0), repr(odd))
                self.assertEqual(raised(ask, CLASH, [(), lot("a"), odd, None]), (InvalidPlan, 2), repr(odd))
            self.assertEqual(raised(ask, CLASH, lot("a")), (InvalidPlan, 0))
            self.assertEqual(raised(ask, CLASH, [(), lot("ab"), None]), (InvalidPlan, 1))


class ChangeTest(unittest.TestCase):
    def test_plan_changes(self):
        for services, rules in BOOKS:
            book = Rulebook(services, rules)
            for plan in helper.random_plans(86, book.states(), 10):
                told = tuple((helper.minus(a, b), helper.minus(b, a)) for a, b in zip(plan, plan[1:]))
                self.assertEqual(plan_changes(book, list(plan)), told)
                self.assertEqual(plan_changes(book=book, plan=plan), told)

    def test_service_counts(self):
        for services, rules in BOOKS:
            book = Rulebook(services, rules)
            for plan in helper.random_plans(87, book.states(), 10):
                changes = list(zip(plan, plan[1:]))
                told = tuple((name, sum(name in b and name not in a for a, b in changes),
                              sum(name in a and name not in b for a, b in changes)) for name in services)
                self.assertEqual(service_counts(book, list(plan)), told)

    def test_used_and_kept_services(self):
        for services, rules in BOOKS:
            book = Rulebook(services, rules)
            for plan in helper.random_plans(88, book.states(), 10):
                used = tuple(name for name in services if any(name in state for state in plan))
                kept = tuple(name for name in services if all(name in state for state in plan))
                self.assertEqual(used_services(book, list(plan)), used)
                self.assertEqual(kept_services(book, list(plan)), kept)

    def test_one_state_and_equal_states(self):
        for ask, one, two in (
            (plan_changes, (), (((), ()),)), (used_services, lot("ab"), lot("ab")), (kept_services, lot("ab"), lot("ab")),
            (service_counts, *[tuple((name, 0, 0) for name in "abcd")] * 2), (wrong_change, None, None),
        ):
            self.assertEqual(ask(FREE, [lot("ab")]), one)
            self.assertEqual(ask(FREE, [lot("ab")] * 2), two)

    def test_by_hand(self):
        plan = lots("ab c bc bc")
        self.assertEqual(plan_changes(FREE, plan), ((lot("ab"), lot("c")), ((), lot("b")), ((), ())))
        self.assertEqual(service_counts(FREE, plan), (("a", 0, 1), ("b", 1, 1), ("c", 1, 0), ("d", 0, 0)))
        self.assertEqual((used_services(FREE, plan), kept_services(FREE, plan)), (lot("abc"), ()))


class WrongChangeTest(unittest.TestCase):
    def test_wrong_change(self):
        found = set()
        for services, rules in BOOKS:
            book = Rulebook(services, rules)
            for plan in helper.random_plans(89, book.states(), 8):
                for batches in helper.random_batches(90, "abcd", 10):
                    started = [helper.minus(b, a) for a, b in zip(plan, plan[1:])]
                    wrong = [at for at, told in enumerate(started) if not helper.fits(batches, told)]
                    self.assertEqual(wrong_change(book, list(plan), batches), wrong[0] if wrong else None)
                    found.add(wrong[0] if wrong else None)
                self.assertIsNone(wrong_change(book, plan))
        self.assertLessEqual({None, 0, 1, 2}, found)

    def test_wrong_slot(self):
        chance = random.Random(91)
        found = set()
        for services, rules in BOOKS:
            book = Rulebook(services, rules)
            for plan in helper.random_plans(92, book.states(), 20):
                every = helper.random_batches(93, "abcd", 12)
                slots = [chance.choice(every) for _ in plan[1:]]
                started = [helper.minus(b, a) for a, b in zip(plan, plan[1:])]
                wrong = [at for at, told in enumerate(started) if not helper.fits(slots[at], told)]
                self.assertEqual(wrong_slot(book, list(plan), slots), wrong[0] if wrong else None)
                found.add(wrong[0] if wrong else None)
        self.assertLessEqual({None, 0, 1, 2}, found)

    def test_slots_of_one_batch_each(self):
        plan = lots("a ab c")
        self.assertIsNone(wrong_slot(FREE, plan, [[lot("b")], [lot("cd")]]))
        self.assertEqual(wrong_slot(FREE, plan, [[lot("b")], [lot("d")]]), 1)
        self.assertEqual(wrong_slot(slots=([lot("c")], [lot("b")]), plan=plan, book=FREE), 0)
        self.assertEqual(wrong_slot(FREE, plan, [None, []]), 1)
        self.assertIsNone(wrong_slot(FREE, [lot("a")], []))
        self.assertIsNone(wrong_slot(FREE, lots("ab a b ab"), [[], [lot("b")], [lot("a")]]))

    def test_stops_are_never_limited(self):
        self.assertIsNone(wrong_change(FREE, lots("abcd -"), []))
        self.assertEqual(wrong_change(plan=lots("abcd a ab -"), book=FREE, batches=[()]), 1)

    def test_errors_of_batches_and_slots(self):
        plan = lots("a b c")
        for value in (True, 0, "ab", {}, object(), Weird()):
            self.assertEqual(raised(wrong_change, FREE, plan, value), (InvalidBatches, 0), repr(value))
            self.assertEqual(raised(wrong_slot, FREE, plan, value), (InvalidBatches, 0), repr(value))
        for odd in NO_LOTS:
            self.assertEqual(raised(wrong_change, FREE, plan, [(), odd]), (InvalidBatches, 1), repr(odd))
            self.assertEqual(raised(wrong_slot, FREE, plan, [(), [odd]]), (InvalidBatches, 1), repr(odd))
        self.assertEqual(raised(wrong_slot, FREE, plan, None), (InvalidBatches, 0))

    def test_as_many_slots_as_changes(self):
        plan = lots("a b c")
        for slots, at in (([], 0), ([None], 1), ([None] * 3, 2), ([None] * 9, 2)):
            self.assertEqual(raised(wrong_slot, FREE, plan, slots), (InvalidBatches, at))
        self.assertEqual(raised(wrong_slot, FREE, [()], [None]), (InvalidBatches, 0))
        self.assertEqual(raised(wrong_slot, FREE, plan, [None, None, None, 7]), (InvalidBatches, 3))
        self.assertEqual(raised(wrong_slot, FREE, plan, [7]), (InvalidBatches, 0))
        self.assertEqual(raised(wrong_slot, FREE, plan, [[lot("c")]]), (InvalidBatches, 1))


if __name__ == "__main__":
    unittest.main()
