"""[25], [26], and the two climbs of [28]: bent plans."""

import itertools
import unittest

from stopsfirst.bending import Bent, bend, join_climb, lazy_plan, meet_climb, tails
from stopsfirst.errors import InvalidPlan, NotBendable, Refused
from stopsfirst.plans import checked_plan, plan_changes, service_counts
from stopsfirst.rulebooks import Rulebook
from tests import helper
from tests.helper import Weird, lot, lots, raised

FREE = Rulebook(lot("abcd"), [])
EXAMPLE = Rulebook(lot("abcd"), [("imply", lot("ab"), ()), ("imply", (), lot("cd"))])
BOOKS = [told for told in helper.random_books(101, 40) if helper.allowed(*told)]
SMALL = [told for told in helper.random_books(102, 30, "abc") if helper.allowed(*told)]
BENDABLE = helper.bendable_books(103, 60)


def fault(states, plan, climb):
    """The least index at which a sequence is wrong as a climb, or None."""
    for at in range(max(len(plan), len(climb))):
        if at >= len(climb) or at >= len(plan) or climb[at] not in states:
            return at
        if at == 0 and not helper.part(climb[0], plan[0]):
            return at
        if at and not helper.part(climb[at - 1], climb[at]):
            return at
        if at and not helper.part(helper.minus(climb[at], climb[at - 1]), helper.minus(plan[at], plan[at - 1])):
            return at
        if at == len(plan) - 1 and not helper.part(plan[-1], climb[at]):
            return at
    return None


def lazy_by_words(states, plan):
    lazy = [plan[0]]
    for state in plan[1:]:
        lazy.append(helper.greatest(helper.between(states, state, helper.join(lazy[-1], state)))[0])
    return tuple(lazy)


def tails_by_words(plan):
    found = []
    for at in range(len(plan)):
        found.append(tuple(name for name in plan[at] if all(name in state for state in plan[at:])))
    return tuple(found)


class BentTest(unittest.TestCase):
    def check(self, book, bent, plan, climb):
        plan = tuple(plan)
        climb = tuple(climb)
        self.assertEqual((bent.plan, bent.climb), (plan, climb))
        self.assertEqual(bent.first_stop, helper.minus(plan[0], climb[0]))
        self.assertEqual(bent.last_stop, helper.minus(climb[-1], plan[-1]))
        self.assertEqual(bent.whole, (plan[0],) + climb + (plan[-1],))
        self.assertEqual(checked_plan(book, bent.whole), bent.whole)

    def test_all_sequences(self):
        found = set()
        for services, rules in SMALL:
            book = Rulebook(services, rules)
            states = helper.allowed(services, rules)
            for plan in helper.random_plans(104, states, 3, longest=3):
                for many in range(4):
                    for climb in itertools.islice(itertools.product(helper.all_lots(services), repeat=many), 0, None, 3):
                        at = fault(states, plan, climb)
                        if at is None:
                            self.check(book, Bent(book, plan, climb), plan, climb)
                            self.assertTrue(helper.is_climb(states, plan, climb))
                        else:
                            self.assertEqual(raised(Bent, book, plan, list(climb)), (Refused, at))
                        found.add(at)
        self.assertLessEqual({None, 0, 1, 2}, found)

    def test_all_climbs(self):
        for services, rules in SMALL:
            book = Rulebook(services, rules)
            states = helper.allowed(services, rules)
            for plan in helper.random_plans(105, states, 6, longest=4):
                for climb in helper.all_climbs(states, plan)[:20]:
                    bent = Bent(book, list(plan), list(climb))
                    self.check(book, bent, plan, climb)
                    changes = plan_changes(book, bent.whole)
                    self.assertTrue(all(stopped == () for stopped, _ in changes[1:-1]))
                    for told, before in zip(service_counts(book, bent.whole), service_counts(book, plan)):
                        self.assertLessEqual(told[1], before[1])
                        self.assertLessEqual(told[2], before[2])

    def test_by_hand(self):
        bent = Bent(climb=lots("c cd acd"), plan=lots("ac bd ad"), book=EXAMPLE)
        self.assertEqual((bent.plan, bent.climb), (lots("ac bd ad"), lots("c cd acd")))
        self.assertEqual((bent.first_stop, bent.last_stop), (lot("a"), lot("c")))
        self.assertEqual(bent.whole, lots("ac c cd acd ad"))

    def test_the_least_index(self):
        plan = lots("ac bd ad")
        for climb, at in (
            ([], 0), ((), 0), (lots("c"), 1), (lots("c cd"), 2), (lots("c cd acd ad"), 3), (lots("c cd acd z"), 3),
            (lots("d cd acd"), 0), (lots("z cd acd"), 0), (lots("- cd acd"), 0), (lots("c c acd"), 2),
            (lots("c bcd acd"), 2), (lots("c d acd"), 1), (lots("c cd ad"), 2), (lots("c cd cd"), 2), (lots("c z"), 1),
            (lots("ac acd acd"), None), (lots("ac ac acd"), 2), (lots("ac abcd acd"), 1), (lots("c ac acd"), 1),
            (lots("c acd acd"), 1), (lots("d"), 0), (lots("c cd bcd"), 2), (lots("abcd z"), 0),
        ):
            told = raised(Bent, EXAMPLE, plan, climb)
            self.assertEqual(told, None if at is None else (Refused, at), climb)

    def test_a_plan_of_one_state(self):
        plan = lots("abc")
        self.assertEqual(raised(Bent, FREE, plan, lots("ab")), (Refused, 0))
        self.assertEqual(raised(Bent, FREE, plan, lots("abcd")), (Refused, 0))
        self.assertEqual(raised(Bent, FREE, plan, lots("abc abc")), (Refused, 1))
        self.assertEqual(raised(Bent, FREE, plan, []), (Refused, 0))
        bent = Bent(FREE, plan, plan)
        self.assertEqual((bent.first_stop, bent.last_stop, bent.whole), ((), (), lots("abc abc abc")))

    def test_spoilt_climbs(self):
        plan = lots("ac bd ad")
        for value in (None, True, False, 0, 5, "", "abc", {}, {()}, object(), iter([lot("c")]), Weird(), b"a", {(): 1}):
            self.assertEqual(raised(Bent, EXAMPLE, plan, value), (Refused, 0), repr(value))
        for odd in helper.ODD_VALUES + (["c"], Weird(), (Weird(),), lot("ab"), lot("abc"), ()):
            self.assertEqual(raised(Bent, EXAMPLE, plan, [odd, None]), (Refused, 0), repr(odd))
            self.assertEqual(raised(Bent, EXAMPLE, plan, [lot("c"), odd, None]), (Refused, 1), repr(odd))
            self.assertEqual(raised(Bent, EXAMPLE, plan, (lot("c"), lot("cd"), odd)), (Refused, 2), repr(odd))
            self.assertEqual(raised(Bent, EXAMPLE, plan, lots("c cd acd") + (odd,)), (Refused, 3), repr(odd))

    def test_plans_come_first(self):
        for climb in (None, (), lots("c cd acd")):
            for plan in (None, [], (), "ab", Weird(), [lot("ab")], [None]):
                self.assertEqual(raised(Bent, EXAMPLE, plan, climb), (InvalidPlan, 0))
            self.assertEqual(raised(Bent, EXAMPLE, lots("ac bd ab"), climb), (InvalidPlan, 2))

    def test_later_changes_have_no_effect(self):
        plan = list(lots("ac bd ad"))
        climb = list(lots("c cd acd"))
        bent = Bent(EXAMPLE, plan, climb)
        plan.clear()
        climb[0] = None
        for _ in range(2):
            self.check(EXAMPLE, bent, lots("ac bd ad"), lots("c cd acd"))

    def test_no_value_of_another_kind_is_equal(self):
        bent = Bent(FREE, [()], [()])
        for value in (None, 0, (((),), ((),)), ((), ()), [], "bent"):
            self.assertIs(bent == value, False)
            self.assertIs(bent != value, True)


class LazyTest(unittest.TestCase):
    def test_the_example(self):
        plan = lots("ac bd ad")
        self.assertEqual(lazy_plan(EXAMPLE, plan), lots("ac bcd acd"))
        self.assertEqual(bend(EXAMPLE, plan).climb, lots("c cd acd"))
        self.assertEqual(bend(EXAMPLE, list(plan)).plan, plan)

    def test_lazy_plan(self):
        for services, rules in BOOKS:
            book = Rulebook(services, rules)
            states = helper.allowed(services, rules)
            for plan in helper.random_plans(106, states, 12, longest=6):
                self.assertEqual(lazy_plan(book, list(plan)), lazy_by_words(states, plan))
                self.assertEqual(lazy_plan(plan=plan, book=book), lazy_by_words(states, plan))

    def test_the_first_of_the_greatest(self):
        book = Rulebook(lot("abc"), [("table", lot("abc"), lots("ab ac bc c"))])
        self.assertEqual(lazy_plan(book, lots("ab c")), lots("ab ac"))
        book = Rulebook(lot("abcd"), [("table", lot("abcd"), lots("bcd ab abc ad a"))])
        self.assertEqual(lazy_plan(book, lots("bcd a")), lots("bcd abc"))
        book = Rulebook(lot("abcd"), [("table", lot("abcd"), lots("bcd ab acd ad a"))])
        self.assertEqual(lazy_plan(book, lots("bcd a")), lots("bcd ab"))

    def test_tails(self):
        for services, rules in BOOKS:
            book = Rulebook(services, rules)
            for plan in helper.random_plans(107, book.states(), 12, longest=6):
                self.assertEqual(tails(book, list(plan)), tails_by_words(plan))
        self.assertEqual(tails(plan=lots("ac bd"), book=EXAMPLE), lots("- bd"))
        self.assertEqual(tails(FREE, lots("ab")), lots("ab"))

    def test_bend(self):
        found = set()
        for services, rules in BOOKS:
            book = Rulebook(services, rules)
            states = helper.allowed(services, rules)
            for plan in helper.random_plans(108, states, 12, longest=6):
                climb = tails_by_words(lazy_by_words(states, plan))
                good = all(state in states for state in climb)
                if good:
                    bent = bend(book, plan)
                    self.assertIsInstance(bent, Bent)
                    self.assertEqual((bent.plan, bent.climb), (plan, climb))
                else:
                    self.assertEqual(raised(bend, book, plan), (NotBendable,))
                found.add(good)
        self.assertEqual(found, {True, False})

    def test_bendable_rulebooks(self):
        for services, rules in BENDABLE:
            book = Rulebook(services, rules)
            for plan in helper.random_plans(109, book.states(), 12, longest=6):
                bent = bend(book, plan)
                self.assertTrue(helper.is_climb(book.states(), plan, bent.climb))

    def test_two_states(self):
        for services, rules in BOOKS[:20]:
            book = Rulebook(services, rules)
            states = helper.allowed(services, rules)
            for a in states:
                for b in states:
                    told = [(x, helper.join(x, b)) for x in helper.middles(states, a, b)]
                    self.assertEqual(helper.all_climbs(states, (a, b)), told)

    def test_equal_states(self):
        self.assertEqual(bend(FREE, [lot("ab")] * 3).climb, (lot("ab"),) * 3)
        self.assertEqual(bend(FREE, [lot("ab")]).whole, (lot("ab"),) * 3)
        self.assertEqual(lazy_plan(FREE, lots("ab ab")), lots("ab ab"))


class TwoClimbsTest(unittest.TestCase):
    def test_join_climb_and_meet_climb(self):
        found = set()
        for services, rules in BOOKS:
            book = Rulebook(services, rules)
            states = helper.allowed(services, rules)
            for plan in helper.random_plans(110, states, 12):
                joins = tuple(tuple(sorted(set().union(*plan[:at + 1]))) for at in range(len(plan)))
                for ask, climb in ((join_climb, joins), (meet_climb, tails_by_words(plan))):
                    bent = ask(book, list(plan))
                    good = all(state in states for state in climb)
                    found.add((ask.__name__, good))
                    if good:
                        self.assertIsInstance(bent, Bent)
                        self.assertEqual((bent.plan, bent.climb), (plan, climb))
                    else:
                        self.assertIsNone(bent)
        self.assertEqual(len(found), 4)

    def test_by_hand(self):
        plan = lots("a b c")
        self.assertEqual(join_climb(book=FREE, plan=plan).climb, lots("a ab abc"))
        self.assertEqual(meet_climb(book=FREE, plan=plan).climb, lots("- - c"))
        self.assertIsNone(join_climb(EXAMPLE, lots("ac bc")))
        self.assertIsNone(meet_climb(EXAMPLE, lots("ac ad")))

    def test_errors(self):
        for ask in (lazy_plan, tails, bend, join_climb, meet_climb):
            for value in ([], (), None, True, 0, "", "ab", {}, {()}, object(), Weird()):
                self.assertEqual(raised(ask, EXAMPLE, value), (InvalidPlan, 0), repr(value))
            for odd in helper.ODD_VALUES + (["c"], Weird(), (Weird(),), lot("ab"), ()):
                self.assertEqual(raised(ask, EXAMPLE, [lot("c"), odd, None]), (InvalidPlan, 1), repr(odd))


if __name__ == "__main__":
    unittest.main()
