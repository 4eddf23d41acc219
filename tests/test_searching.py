"""[27]: looking for climbs, bendable or not."""

import itertools
import unittest

from stopsfirst.bending import Bent
from stopsfirst.errors import InvalidBatches, InvalidPlan
from stopsfirst.plans import wrong_change
from stopsfirst.rulebooks import Rulebook
from stopsfirst.searching import climb_layers, count_climbs, find_climb, shows_no_climb, unbent_plan
from tests import helper
from tests.helper import Weird, lot, lots, raised

SMALL = [told for told in helper.random_books(121, 30, "abc") if helper.allowed(*told)]
BOOKS = [told for told in helper.random_books(122, 30) if helper.allowed(*told)]
KEEPS = [{"keep_first": first, "keep_last": last} for first in (False, True) for last in (False, True)]
TORN = Rulebook(lot("ab"), [("table", lot("ab"), lots("a b"))])
FREE = Rulebook(lot("abc"), [])


def next_by_words(states, layer, before, state):
    """The members that a layer asks for in the next one."""
    return {d for d in states for c in layer
            if helper.part(c, d) and helper.part(helper.minus(d, c), helper.minus(state, before))}


def first_by_words(states, plan, keep_first):
    return {plan[0]} if keep_first else {c for c in states if helper.part(c, plan[0])}


def layers_by_words(states, plan, keep_first):
    layers = [first_by_words(states, plan, keep_first)]
    for at in range(1, len(plan)):
        layers.append(next_by_words(states, layers[-1], plan[at - 1], plan[at]))
    return tuple(tuple(sorted(layer)) for layer in layers)


def shows_by_words(states, plan, layers, keep_first, keep_last):
    """Whether layers of allowed states, as many as the plan has states, show that there is no climb."""
    if not first_by_words(states, plan, keep_first) <= set(layers[0]):
        return False
    for at in range(1, len(plan)):
        if not next_by_words(states, layers[at - 1], plan[at - 1], plan[at]) <= set(layers[at]):
            return False
    if keep_last:
        return plan[-1] not in layers[-1]
    return not any(helper.part(plan[-1], c) for c in layers[-1])


class ClimbTest(unittest.TestCase):
    def test_find_and_count(self):
        found = set()
        for services, rules in SMALL:
            book = Rulebook(services, rules)
            states = helper.allowed(services, rules)
            for plan in helper.random_plans(123, states, 6, longest=4):
                for keep in KEEPS:
                    told = helper.all_climbs(states, plan, **keep)
                    bent = find_climb(book, list(plan), **keep)
                    self.assertEqual(count_climbs(book, list(plan), **keep), len(told))
                    if told:
                        self.assertIsInstance(bent, Bent)
                        self.assertEqual((bent.plan, bent.climb), (plan, told[0]))
                    else:
                        self.assertIsNone(bent)
                    found.add((keep["keep_first"], keep["keep_last"], bool(told)))
        self.assertEqual(len(found), 8)

    def test_four_services(self):
        for services, rules in BOOKS:
            book = Rulebook(services, rules)
            states = helper.allowed(services, rules)
            for plan in helper.random_plans(124, states, 3, longest=3):
                for keep in KEEPS:
                    told = helper.all_climbs(states, plan, **keep)
                    bent = find_climb(book, plan, **keep)
                    self.assertEqual(None if bent is None else bent.climb, told[0] if told else None)
                    self.assertEqual(count_climbs(book, plan, **keep), len(told))

    def test_by_hand(self):
        self.assertIsNone(find_climb(TORN, lots("a b")))
        self.assertEqual(count_climbs(TORN, lots("a b")), 0)
        self.assertEqual(find_climb(FREE, lots("a b")).climb, lots("- b"))
        self.assertEqual(find_climb(FREE, lots("a b"), keep_first=True).climb, lots("a ab"))
        self.assertEqual(find_climb(FREE, lots("a b"), keep_last=True).climb, lots("- b"))
        self.assertIsNone(find_climb(FREE, lots("a b"), keep_first=True, keep_last=True))
        self.assertEqual([count_climbs(FREE, lots("a b"), **keep) for keep in KEEPS], [2, 1, 1, 0])

    def test_one_state_and_equal_states(self):
        for plan in (lots("ab"), lots("ab ab"), lots("ab ab ab")):
            self.assertEqual(find_climb(plan=plan, book=FREE).climb, plan)
            self.assertEqual(count_climbs(plan=plan, book=FREE), 1)
            for keep in KEEPS:
                self.assertEqual(count_climbs(FREE, plan, **keep), 1)
                self.assertEqual(find_climb(FREE, plan, **keep).climb, plan)

    def test_bendable_rulebooks(self):
        for services, rules in helper.bendable_books(125, 30):
            book = Rulebook(services, rules)
            for plan in helper.random_plans(126, book.states(), 6, longest=7):
                self.assertIsNotNone(find_climb(book, plan))
                self.assertGreater(count_climbs(book, plan), 0)


class LayerTest(unittest.TestCase):
    def test_climb_layers(self):
        for services, rules in SMALL + BOOKS:
            book = Rulebook(services, rules)
            states = helper.allowed(services, rules)
            for plan in helper.random_plans(127, states, 6):
                for keep in KEEPS:
                    told = layers_by_words(states, plan, keep["keep_first"])
                    self.assertEqual(climb_layers(book, list(plan), **keep), told)
                self.assertEqual(climb_layers(plan=plan, book=book), layers_by_words(states, plan, False))

    def test_own_layers_show_it_exactly_without_a_climb(self):
        found = set()
        for services, rules in SMALL + BOOKS:
            book = Rulebook(services, rules)
            for plan in helper.random_plans(128, book.states(), 8):
                for keep in KEEPS:
                    layers = climb_layers(book, plan, **keep)
                    told = count_climbs(book, plan, **keep) == 0
                    self.assertIs(shows_no_climb(book, list(plan), layers, **keep), told)
                    turned = [list(reversed(layer + layer[:1])) for layer in layers]
                    self.assertIs(shows_no_climb(book, plan, turned, **keep), told)
                    found.add((told, keep["keep_first"], keep["keep_last"]))
        self.assertEqual(len(found), 8)

    def test_other_layers(self):
        found = set()
        for services, rules in [told for told in SMALL if len(helper.allowed(*told)) <= 5]:
            book = Rulebook(services, rules)
            states = helper.allowed(services, rules)
            subsets = [[s for k, s in enumerate(states) if chosen >> k & 1] for chosen in range(1 << len(states))]
            for plan in helper.random_plans(129, states, 3, longest=2):
                for keep in KEEPS:
                    for layers in itertools.islice(itertools.product(subsets, repeat=len(plan)), 0, None, 5):
                        told = shows_by_words(states, plan, layers, **keep)
                        self.assertIs(shows_no_climb(book, plan, layers, **keep), told)
                        found.add(told)
        self.assertEqual(found, {True, False})

    def test_a_missing_member(self):
        book = Rulebook(lot("abcd"), [("table", lot("abcd"), lots("a ab abc d"))])
        plan = lots("a ab abc d")
        layers = climb_layers(book, plan)
        self.assertEqual(layers, (lots("a"), lots("a ab"), lots("a ab abc"), lots("a ab abc")))
        self.assertIs(shows_no_climb(book, plan, layers), True)
        for at, layer in enumerate(layers):
            for state in layer:
                fewer = [[x for x in other if k != at or x != state] for k, other in enumerate(layers)]
                told = shows_by_words(book.states(), plan, fewer, False, False)
                self.assertIs(shows_no_climb(book, plan, fewer), told)
                self.assertIs(shows_no_climb(book, plan, fewer) and at in (0, 3), False)

    def test_more_members_than_needed(self):
        book = Rulebook(lot("abcd"), [("table", lot("abcd"), lots("a ab ac d"))])
        plan = lots("a d")
        self.assertIs(shows_no_climb(book, plan, [lots("a"), lots("a")]), True)
        self.assertIs(shows_no_climb(book, plan, [lots("a"), lots("ac a a ab")]), True)
        self.assertIs(shows_no_climb(book, plan, (list(lots("a a a")), lots("a"))), True)
        self.assertIs(shows_no_climb(book, plan, [lots("a"), lots("a d")]), False)
        self.assertIs(shows_no_climb(book, plan, [lots("a ab"), lots("a")]), False)
        self.assertIs(shows_no_climb(book, plan, [lots("a ab"), lots("a ab")]), True)
        self.assertIs(shows_no_climb(book, plan, [lots("ab"), lots("a ab")]), False)

    def test_keeping_the_first_or_the_last(self):
        plan = lots("a b")
        layers = [lots("a"), lots("a ab")]
        self.assertIs(shows_no_climb(FREE, plan, layers, keep_first=True, keep_last=True), True)
        self.assertIs(shows_no_climb(FREE, plan, layers, keep_first=True), False)
        self.assertIs(shows_no_climb(FREE, plan, layers, keep_last=True), False)
        self.assertIs(shows_no_climb(FREE, plan, [lots("a -"), lots("- a ab b")], keep_last=True), False)
        self.assertEqual(climb_layers(FREE, plan, keep_first=True), tuple(layers))
        self.assertEqual(climb_layers(FREE, plan, keep_last=True), (lots("- a"), lots("- a ab b")))

    def test_spoilt_layers(self):
        plan = lots("a b")
        good = (lots("a"), lots("a"))
        self.assertIs(shows_no_climb(layers=list(good), plan=plan, book=TORN), True)
        for value in helper.ODD_VALUES + (
            good[:1], good + (lots("a"),), good + ((),), {good[0]: good[1]}, Weird(), (Weird(), Weird()), (),
            ({lot("a")}, good[1]), (good[0], {lot("a"): 1}), (good[0], None), (None, good[1]), (good[0], "a"),
            (good[0], 5), (good[0], iter(good[1])), ((), good[1]), (good[0], ()),
        ):
            self.assertIs(shows_no_climb(TORN, plan, value), False, repr(value))
        for odd in helper.ODD_VALUES + (["a"], Weird(), (Weird(),), lot("ab"), ()):
            self.assertIs(shows_no_climb(TORN, plan, (lots("a"), (lot("a"), odd))), False, repr(odd))
            self.assertIs(shows_no_climb(TORN, plan, ([odd, lot("a")], lots("a"))), False, repr(odd))

    def test_arguments_stay(self):
        layers = [[lot("a")], [lot("a"), lot("a")]]
        plan = [lot("a"), lot("b")]
        shows_no_climb(TORN, plan, layers)
        self.assertEqual((layers, plan), ([[lot("a")], [lot("a"), lot("a")]], [lot("a"), lot("b")]))


class ErrorTest(unittest.TestCase):
    def test_plans(self):
        for ask in (find_climb, count_climbs, climb_layers, lambda book, plan: shows_no_climb(book, plan, None)):
            for value in ([], (), None, True, 0, "", "ab", {}, {()}, object(), Weird()):
                self.assertEqual(raised(ask, TORN, value), (InvalidPlan, 0), repr(value))
            for odd in helper.ODD_VALUES + (["a"], Weird(), (Weird(),), lot("ab"), ()):
                self.assertEqual(raised(ask, TORN, [lot("a"), odd, None]), (InvalidPlan, 1), repr(odd))

    def test_keeps_are_passed_by_keyword(self):
        for ask in (find_climb, count_climbs, climb_layers):
            self.assertRaises(TypeError, ask, TORN, lots("a"), True)
        self.assertRaises(TypeError, shows_no_climb, TORN, lots("a"), [], True)

    def test_batches(self):
        for value in (True, 0, "ab", {}, object(), Weird()):
            self.assertEqual(raised(unbent_plan, TORN, value), (InvalidBatches, 0), repr(value))
        for odd in helper.ODD_VALUES + (["a"], Weird()):
            self.assertEqual(raised(unbent_plan, TORN, [(), odd, None]), (InvalidBatches, 1), repr(odd))


class UnbentTest(unittest.TestCase):
    def check(self, services, rules, batches):
        book = Rulebook(services, rules)
        plan = unbent_plan(book, batches)
        if plan is not None:
            self.assertIsInstance(plan, tuple)
            self.assertIsNone(wrong_change(book, plan, batches))
            self.assertEqual(count_climbs(book, plan), 0)
            for a, b in zip(plan[:-2], plan[1:-1]):
                self.assertTrue(helper.part(a, b))
        return plan

    def some_plan_has_no_climb(self, states, batches):
        """Goes through all plans, with stops at any time, as far as they differ in their last state and layer."""
        level = {(a, frozenset(first_by_words(states, (a,), False))) for a in states}
        seen = set(level)
        while level:
            further = set()
            for a, layer in level:
                for b in states:
                    if helper.fits(batches, helper.minus(b, a)):
                        further.add((b, frozenset(next_by_words(states, layer, a, b))))
            if any(not any(helper.part(b, c) for c in layer) for b, layer in further):
                return True
            level = further - seen
            seen |= level
        return False

    def test_without_limits_of_batches(self):
        found = set()
        for services, rules in SMALL + BOOKS:
            states = helper.allowed(services, rules)
            self.assertIs(self.check(services, rules, None) is None, helper.is_bendable(states))
            found.add(helper.is_bendable(states))
        self.assertEqual(found, {True, False})

    def test_small_rulebooks(self):
        found = set()
        for services, rules in SMALL:
            states = helper.allowed(services, rules)
            for batches in helper.random_batches(130, services, 7):
                told = self.check(services, rules, batches)
                self.assertIs(told is not None, self.some_plan_has_no_climb(states, batches))
                found.add((batches is None, told is None))
        self.assertEqual(len(found), 4)

    def test_all_rulebooks_of_three_services(self):
        lengths = set()
        every = helper.all_lots("abc")
        for chosen in range(1 << 8):
            states = [state for k, state in enumerate(every) if chosen >> k & 1]
            for batches in (lots("a b c"), lots("b c"), lots("ab c")):
                told = self.check(lot("abc"), helper.table_of("abc", states), batches)
                self.assertIs(told is not None, self.some_plan_has_no_climb(states, batches), (states, batches))
                lengths.add(0 if told is None else len(set(told)))
        self.assertLessEqual({0, 2, 3}, lengths)

    def test_more_than_two_states(self):
        rules = helper.table_of("abc", lots("a ab b bc"))
        plan = self.check(lot("abc"), rules, lots("b c"))
        self.assertEqual(helper.all_climbs(lots("a ab b bc"), lots("a ab bc")), [])
        self.assertGreaterEqual(len(set(plan)), 3)
        states = lots("a ab abc b bc bcd")
        plan = self.check(lot("abcd"), helper.table_of("abcd", states), lots("b c d"))
        self.assertIs(plan is not None, self.some_plan_has_no_climb(states, lots("b c d")))

    def test_by_hand(self):
        self.assertEqual(unbent_plan(TORN, None), unbent_plan(book=TORN, batches=[lot("a"), lot("b")]))
        self.assertEqual(unbent_plan(TORN, [lot("a")]), lots("b a"))
        self.assertEqual(unbent_plan(TORN, [lot("b")]), lots("a b"))
        self.assertIsNone(unbent_plan(TORN, []))
        self.assertIsNone(unbent_plan(TORN, [()]))
        self.assertIsNone(unbent_plan(FREE, None))
        self.assertIsNone(unbent_plan(Rulebook(lot("ab"), [("imply", (), ())]), None))


if __name__ == "__main__":
    unittest.main()
