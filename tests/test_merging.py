"""[28] and [29]: plans that first stop or first start, and bent plans with fewer changes."""

import unittest

from stopsfirst.bending import Bent, bend, join_climb
from stopsfirst.errors import InvalidPlan
from stopsfirst.merging import down_up, merged_plan, short_plan, up_down
from stopsfirst.plans import checked_plan, plan_changes, wrong_change, wrong_slot
from stopsfirst.rulebooks import Rulebook
from tests import helper
from tests.helper import Weird, lot, lots, raised

FREE = Rulebook(lot("abcd"), [])
CLASH = Rulebook(lot("abcd"), [("imply", lot("ab"), ())])
SMALL = [told for told in helper.random_books(141, 30, "abc") if helper.allowed(*told)]
BOOKS = [told for told in helper.random_books(142, 40) if helper.allowed(*told)]
BENDABLE = helper.bendable_books(143, 60)


def without_repeats(states):
    return tuple(state for at, state in enumerate(states) if not at or state != states[at - 1])


def bents():
    """Pairs of a rulebook and a bent plan of it: of all lengths, with all kinds of climbs."""
    for services, rules in SMALL:
        book = Rulebook(services, rules)
        for plan in helper.random_plans(144, book.states(), 6, longest=4):
            for climb in helper.all_climbs(book.states(), plan)[:12]:
                yield book, Bent(book, plan, climb)


class MergedTest(unittest.TestCase):
    def test_merged_plan(self):
        lengths = set()
        for book, bent in bents():
            plan, climb = bent.plan, bent.climb
            told = (plan[0],) + climb[1:-1] + (plan[-1],) if len(plan) > 2 else plan
            self.assertEqual(merged_plan(bent), told)
            self.assertEqual(checked_plan(book, told), told)
            starts = [(lot_told,) for _, lot_told in plan_changes(book, plan)]
            self.assertIsNone(wrong_slot(book, told, starts))
            lengths.add(len(told))
        self.assertEqual(lengths, {1, 2, 3, 4})

    def test_only_the_first_and_the_last_change_stop(self):
        for services, rules in BENDABLE:
            book = Rulebook(services, rules)
            for plan in helper.random_plans(145, book.states(), 8, longest=7):
                told = plan_changes(book, merged_plan(bend(book, plan)))
                self.assertTrue(all(stopped == () for stopped, _ in told[1:-1]))

    def test_short_plan(self):
        lengths = set()
        for book, bent in bents():
            climb = without_repeats(bent.climb)
            told = without_repeats((bent.plan[0],) + (climb[1:-1] if len(climb) > 2 else ()) + (bent.plan[-1],))
            self.assertEqual(short_plan(bent), told)
            self.assertEqual(checked_plan(book, told), told)
            lengths.add(len(told))
        self.assertEqual(lengths, {1, 2, 3, 4})

    def test_short_plans_fit_and_are_short(self):
        for services, rules in BENDABLE:
            book = Rulebook(services, rules)
            for plan in helper.random_plans(146, book.states(), 8, longest=9):
                told = short_plan(bend(book, plan))
                batches = [started for _, started in plan_changes(book, plan)]
                self.assertIsNone(wrong_change(book, told, batches))
                self.assertLessEqual(len(told) - 1, len(services))
                self.assertEqual((told[0], told[-1]), (plan[0], plan[-1]))

    def test_by_hand(self):
        bent = Bent(FREE, lots("ab c c bc cd"), lots("a ac ac abc abcd"))
        self.assertEqual(merged_plan(bent), lots("ab ac ac abc cd"))
        self.assertEqual(short_plan(bent), lots("ab ac abc cd"))
        bent = Bent(FREE, lots("ab b ab"), lots("b b ab"))
        self.assertEqual(merged_plan(bent), lots("ab b ab"))
        self.assertEqual(short_plan(bent), lots("ab"))
        bent = Bent(FREE, lots("a b"), lots("- b"))
        self.assertEqual(merged_plan(bent=bent), lots("a b"))
        self.assertEqual(short_plan(bent=bent), lots("a b"))
        bent = Bent(FREE, lots("abc a ab"), lots("a a ab"))
        self.assertEqual(merged_plan(bent), lots("abc a ab"))
        self.assertEqual(short_plan(bent), lots("abc ab"))
        bent = Bent(FREE, lots("ab a b c"), lots("- - b bc"))
        self.assertEqual(merged_plan(bent), lots("ab - b c"))
        self.assertEqual(short_plan(bent), lots("ab b c"))

    def test_equal_neighbours_at_the_ends(self):
        bent = Bent(FREE, lots("a ab ab abc"), lots("a ab ab abc"))
        self.assertEqual(short_plan(bent), lots("a ab abc"))
        bent = Bent(FREE, lots("b ab a ac a"), lots("b ab ab abc abc"))
        self.assertEqual(merged_plan(bent), lots("b ab ab abc a"))
        self.assertEqual(short_plan(bent), lots("b ab a"))
        bent = Bent(FREE, lots("b a ab"), lots("- a ab"))
        self.assertEqual(short_plan(bent), lots("b a ab"))
        bent = Bent(FREE, lots("ab a ab b"), lots("a a ab ab"))
        self.assertEqual(merged_plan(bent), lots("ab a ab b"))
        self.assertEqual(short_plan(bent), lots("ab b"))

    def test_one_state(self):
        for plan in (lots("ab"), lots("ab ab"), lots("ab ab ab")):
            bent = join_climb(FREE, plan)
            self.assertEqual(merged_plan(bent), plan)
            self.assertEqual(short_plan(bent), lots("ab"))


class DownUpTest(unittest.TestCase):
    def through(self, plan, mix):
        """The lots mixed from the first state up to each one, then from each later one up to the last."""
        before = [mix(plan[:at + 1]) for at in range(len(plan))]
        behind = [mix(plan[at:]) for at in range(len(plan))]
        return tuple(before + behind[1:])

    def meet(self, states):
        return tuple(name for name in states[0] if all(name in state for state in states))

    def join(self, states):
        return tuple(sorted(set().union(*states)))

    def test_down_up_and_up_down(self):
        found = set()
        for services, rules in BOOKS:
            book = Rulebook(services, rules)
            states = helper.allowed(services, rules)
            for plan in helper.random_plans(147, states, 12):
                for ask, mix in ((down_up, self.meet), (up_down, self.join)):
                    told = self.through(plan, mix)
                    good = all(state in states for state in told)
                    self.assertEqual(ask(book, list(plan)), told if good else None)
                    found.add((ask.__name__, good))
        self.assertEqual(len(found), 4)

    def test_by_hand(self):
        self.assertEqual(down_up(plan=lots("ab bc cd"), book=FREE), lots("ab b - c cd"))
        self.assertEqual(up_down(plan=lots("ab bc cd"), book=FREE), lots("ab abc abcd bcd cd"))
        self.assertEqual(down_up(CLASH, lots("ac bc")), lots("ac c bc"))
        self.assertIsNone(up_down(CLASH, lots("ac bc")))
        some = Rulebook(lot("abc"), [("imply", (), lot("abc"))])
        self.assertIsNone(down_up(some, lots("a b")))
        self.assertEqual(up_down(some, lots("a b")), lots("a ab b"))

    def test_a_lot_in_the_middle_alone_is_forbidden(self):
        book = Rulebook(lot("abc"), [("table", lot("abc"), lots("ab bc ac abc b c"))])
        self.assertIsNone(down_up(book, lots("ab bc ac")))
        self.assertEqual(up_down(book, lots("ab bc ac")), lots("ab abc abc abc ac"))
        book = Rulebook(lot("abc"), [("table", lot("abc"), lots("a b c ab bc -"))])
        self.assertIsNone(up_down(book, lots("a b c")))
        self.assertEqual(down_up(book, lots("a b c")), lots("a - - - c"))

    def test_one_state_and_equal_states(self):
        for ask in (down_up, up_down):
            self.assertEqual(ask(FREE, lots("ab")), lots("ab"))
            self.assertEqual(ask(FREE, lots("ab ab")), lots("ab ab ab"))

    def test_errors(self):
        for ask in (down_up, up_down):
            for value in ([], (), None, True, 0, "", "ab", {}, {()}, object(), Weird()):
                self.assertEqual(raised(ask, CLASH, value), (InvalidPlan, 0), repr(value))
            for odd in helper.ODD_VALUES + (["c"], Weird(), (Weird(),), lot("ab")):
                self.assertEqual(raised(ask, CLASH, [lot("c"), odd, None]), (InvalidPlan, 1), repr(odd))


if __name__ == "__main__":
    unittest.main()
