"""[3]: the functions answer in good time at the limits, with far more time given here than they need."""

import itertools
import random
import time
import unittest

from stopsfirst.bending import bend, join_climb, lazy_plan, meet_climb, tails
from stopsfirst.climbs import climb_above, climb_plan, tops
from stopsfirst.court import (
    bad_cuts, bad_joins, bad_pairs, core, hull, is_bendable, least_bad_pair, locked_changes, locked_within,
)
from stopsfirst.evidence import follow, is_verdict, verdict
from stopsfirst.merging import down_up, merged_plan, short_plan, up_down
from stopsfirst.pairs import between, built_up, cut_down, greatest_between, least_between, middles, upper_middles
from stopsfirst.plans import (
    checked_batches, checked_plan, checked_slots, kept_services, plan_changes, service_counts, used_services,
    wrong_change, wrong_slot,
)
from stopsfirst.primes import (
    follow_paper, least_rules, needless_alone, needless_in_turn, prime_of, prime_rules, useful, witness,
)
from stopsfirst.reach import distances, shortest_plan, shows_far, shows_unreached
from stopsfirst.rulebooks import Rulebook, follows, parting_state, steady
from stopsfirst.searching import climb_layers, count_climbs, find_climb, shows_no_climb, unbent_plan
from stopsfirst.stairs import beyond_tops, reach_answer, shows_outside, shows_steps, stairs
from stopsfirst.texts import read_book, text_of
from tests import helper
from tests.helper import lot

SECONDS = 15
TEN = lot("abcdefghij")
SIX = lot("abcdef")


def heavy_rules(services, many):
    """Rules with as many entries as there can be, that allow much."""
    ends = [(x, y, 1000000 // 50) for x, y in itertools.combinations(services, 2)]
    numbers = [(name, 100000) for name in services]
    half = len(services) // 2
    kinds = [
        ("cut", ends, 1000000),
        ("cap", numbers, 1000000),
        ("feed", numbers[:half], numbers[half:], 1000000),
        ("table", services[:6], helper.all_lots(services[:6])),
        ("imply", services[:half], services[half:]),
    ]
    return [kinds[at % len(kinds)] for at in range(many)]


class LimitTest(unittest.TestCase):
    def setUp(self):
        self.began = time.perf_counter()

    def tearDown(self):
        self.assertLess(time.perf_counter() - self.began, SECONDS)

    def test_ten_services_and_thirty_rules(self):
        rules = heavy_rules(TEN, 30)
        book = Rulebook(TEN, rules)
        states = book.states()
        self.assertEqual(states, tuple(helper.allowed(TEN, rules[:5])))
        self.assertEqual(book.broken(TEN[:5]), (4, 9, 14, 19, 24, 29))
        self.assertIs(follows(book, rules[0]), True)
        self.assertIsNone(parting_state(book, Rulebook(TEN, rules[:5])))
        self.assertEqual(steady(book), ((), ()))
        self.assertEqual(book.with_rules(rules).states(), states)
        self.assertEqual(book.only_rules([0, 1, 2, 3, 4]).states(), states)
        self.assertEqual(between(book, (), TEN), states)
        self.assertEqual(least_between(book, (), TEN), ((),))
        self.assertEqual(greatest_between(book, (), TEN), (TEN,))
        self.assertEqual(len(middles(book, TEN, ())), len(states))
        self.assertEqual(len(upper_middles(book, TEN, ())), len(states))
        self.assertEqual(cut_down(book, TEN, ()), ())
        self.assertEqual(built_up(book, (), TEN), TEN)
        self.assertEqual(locked_within(book, TEN, ()), None)

    def test_lots_of_ten_services(self):
        middle = helper.all_lots(TEN)
        book = Rulebook(TEN, [("table", TEN, [state for state in middle if 4 <= len(state) <= 6])])
        self.assertEqual(len(greatest_between(book, (), TEN)), 210)
        self.assertEqual(len(least_between(book, (), TEN)), 210)
        self.assertEqual((core(book, TEN), hull(book, ())), ((), TEN))
        self.assertTrue(bad_cuts(book, TEN))
        self.assertTrue(bad_joins(book, ()))
        self.assertIs(is_bendable(book, low=TEN[:3]), False)

    def test_a_text_with_sixty_rules(self):
        rules = heavy_rules(TEN, 60)
        book = read_book(text_of(Rulebook(TEN, rules)))
        self.assertEqual(book, Rulebook(TEN, rules))
        self.assertEqual(book.states(), tuple(helper.allowed(TEN, rules[:5])))

    def test_all_states_of_six_services(self):
        for rules in (heavy_rules(SIX, 30), [], [("cap", [(name, 1) for name in SIX], 3)]):
            book = Rulebook(SIX, rules)
            states = helper.allowed(SIX, rules[:5])
            self.assertEqual(is_bendable(book), helper.is_bendable(states))
            self.assertEqual(bad_pairs(book), tuple(helper.bad_pairs(states)))
            self.assertEqual(least_bad_pair(book) is None, is_bendable(book))
            self.assertEqual(locked_changes(book) == (), is_bendable(book))
            self.assertEqual(helper.allowed(SIX, prime_rules(book)), states)
            asked = ("imply", SIX[:3], SIX[3:])
            told = "prime" if all(helper.rule_allows(asked, state) for state in states) else "state"
            self.assertEqual(follow_paper(book, asked)[0], told)

    def test_prime_rules_of_one_rule(self):
        for rule in heavy_rules(SIX, 5):
            self.assertTrue(len(prime_of(Rulebook(SIX, [rule]).rules[0])) <= 60)

    def test_needless_rules(self):
        rules = heavy_rules(TEN, 8)
        book = Rulebook(TEN, rules)
        self.assertEqual(needless_alone(book), tuple(at for at in range(8) if at != 4))
        self.assertEqual(needless_in_turn(book), tuple(at for at in range(8) if at != 4))
        self.assertEqual(least_rules(book), ((4,),))
        self.assertEqual(useful(book), (4,))
        self.assertEqual(witness(book, 4), TEN[:5])

    def test_evidence_of_six_services(self):
        for rules in (heavy_rules(SIX, 30), [], [("cap", [(name, 1) for name in SIX], 3)]):
            book = Rulebook(SIX, rules)
            word, told = verdict(book)
            self.assertIs(is_verdict(book, (word, told)), True)
            self.assertEqual(word, "steps" if is_bendable(book) else "locked")
            if word == "steps":
                self.assertEqual(follow(book, told, (), book.states()[-1]), ((),))

    def test_plans_of_two_hundred_states(self):
        chance = random.Random(191)
        for services, rules in ((TEN, [("cap", [(name, 1) for name in TEN], 6)]), (TEN, []), (SIX, [])):
            book = Rulebook(services, rules)
            plan = [chance.choice(book.states()) for _ in range(200)]
            batches = [chance.choice(helper.all_lots(services)) for _ in range(12)]
            self.assertEqual(checked_plan(book, plan), tuple(plan))
            self.assertEqual(len(plan_changes(book, plan)), 199)
            self.assertEqual(len(service_counts(book, plan)), len(services))
            self.assertEqual((used_services(book, plan), kept_services(book, plan)), (services, ()))
            self.assertIsNone(wrong_change(book, plan))
            self.assertTrue(checked_batches(book, batches))
            slots = [batches] * 199
            self.assertEqual(len(checked_slots(book, slots + [batches])), 200)
            self.assertEqual(wrong_slot(book, plan, slots), wrong_change(book, plan, batches))
            self.assertEqual(len(lazy_plan(book, plan)), 200)
            self.assertEqual(len(tails(book, plan)), 200)
            bent = bend(book, plan)
            self.assertEqual(len(merged_plan(bent)), 200)
            self.assertLessEqual(len(short_plan(bent)), len(services) + 1)
            self.assertIsNotNone(meet_climb(book, plan))
            self.assertEqual(join_climb(book, plan) is None, rules != [])
            self.assertEqual(len(down_up(book, plan)), 399)
            self.assertEqual(up_down(book, plan) is None, rules != [])

    def test_climbs_of_plans_of_two_hundred_states(self):
        chance = random.Random(192)
        for rules in ([], [("cap", [(name, 1) for name in SIX], 3)], [("imply", (), SIX)]):
            book = Rulebook(SIX, rules)
            plan = [chance.choice(book.states()) for _ in range(200)]
            for keep in ({}, {"keep_first": True}, {"keep_last": True}):
                told = count_climbs(book, plan, **keep)
                self.assertEqual(find_climb(book, plan, **keep) is None, told == 0)
                layers = climb_layers(book, plan, **keep)
                self.assertIs(shows_no_climb(book, plan, layers, **keep), told == 0)

    def test_unbent_plans_of_four_services(self):
        for services, rules in helper.random_books(193, 40):
            for batches in (None, tuple((name,) for name in services), [lot("ab"), lot("cd")]):
                self.assertIn(type(unbent_plan(Rulebook(services, rules), batches)), (tuple, type(None)))

    def test_what_is_reached(self):
        for services, rules in ((SIX, []), (TEN, [("cap", [(name, 1) for name in TEN], 6)]), (TEN, [])):
            book = Rulebook(services, rules)
            ones = tuple((name,) for name in services)
            goal = services[:6]
            self.assertEqual(len(tops(book, (), ones)), 1 if rules == [] else 210)
            climb = climb_above(book, (), goal, ones)
            self.assertEqual(len(climb), 7)
            self.assertEqual(climb_plan(book, (), goal, climb), climb)
            told = distances(book, (), ones)
            self.assertEqual(told, tuple((state, len(state)) for state in book.states()))
            self.assertEqual({number for _, number in distances(book, (), ones, stops=True)}, {0})
            self.assertEqual(len(shortest_plan(book, (), goal, ones)), 7)
            self.assertIs(shows_far(book, (), goal, 6, ones, told), True)
            self.assertIs(shows_unreached(book, (), goal, (), ((),)), True)
            self.assertIs(shows_unreached(book, (), goal, ones, book.states()), False)
            self.assertEqual(beyond_tops(book, (), ones), ())
            self.assertEqual(len(stairs(book, (), ones)), 7 if rules else len(services) + 1)
            self.assertIs(shows_steps(book, (), goal, ones, stairs(book, (), ones)[:6]), True)
            self.assertIs(shows_outside(book, (), goal, [services[:5]], [services[:5]]), True)
            self.assertEqual(reach_answer(book, (), goal, ones)[0], "plan")
            self.assertEqual(reach_answer(book, (), goal, [services[1:4]]), ("tops", (services[1:4],)))


if __name__ == "__main__":
    unittest.main()
