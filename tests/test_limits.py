"""[3]: the functions answer in good time at the limits, with far more time given here than they need."""

import itertools
import time
import unittest

from stopsfirst.court import (
    bad_cuts, bad_joins, bad_pairs, core, hull, is_bendable, least_bad_pair, locked_changes, locked_within,
)
from stopsfirst.pairs import between, built_up, cut_down, greatest_between, least_between, middles, upper_middles
from stopsfirst.primes import (
    follow_paper, least_rules, needless_alone, needless_in_turn, prime_of, prime_rules, useful, witness,
)
from stopsfirst.rulebooks import Rulebook, follows, parting_state, steady
from stopsfirst.texts import read_book, text_of
from tests import helper
from tests.helper import lot

SECONDS = 15
TEN = lot("abcdefghij")
SIX = lot("abcdef")


def heavy_rules(services, many):
    """Rules with as many entries as there can be, that allow much."""
    ends = [(x, y, 1000000 // 50) for x, y in itertools.combinations(services, 2)]
    numbers = [(name, 100000) for name in services]
    half = len(services) // 2
    kinds = [
        ("cut", ends, 1000000),
        ("cap", numbers, 1000000),
        ("feed", numbers[:half], numbers[half:], 1000000),
        ("table", services[:6], helper.all_lots(services[:6])),
        ("imply", services[:half], services[half:]),
    ]
    return [kinds[at % len(kinds)] for at in range(many)]


class LimitTest(unittest.TestCase):
    def setUp(self):
        self.began = time.perf_counter()

    def tearDown(self):
        self.assertLess(time.perf_counter() - self.began, SECONDS)

    def test_ten_services_and_thirty_rules(self):
        rules = heavy_rules(TEN, 30)
        book = Rulebook(TEN, rules)
        states = book.states()
        self.assertEqual(states, tuple(helper.allowed(TEN, rules[:5])))
        self.assertEqual(book.broken(TEN[:5]), (4, 9, 14, 19, 24, 29))
        self.assertIs(follows(book, rules[0]), True)
        self.assertIsNone(parting_state(book, Rulebook(TEN, rules[:5])))
        self.assertEqual(steady(book), ((), ()))
        self.assertEqual(book.with_rules(rules).states(), states)
        self.assertEqual(book.only_rules([0, 1, 2, 3, 4]).states(), states)
        self.assertEqual(between(book, (), TEN), states)
        self.assertEqual(least_between(book, (), TEN), ((),))
        self.assertEqual(greatest_between(book, (), TEN), (TEN,))
        self.assertEqual(len(middles(book, TEN, ())), len(states))
        self.assertEqual(len(upper_middles(book, TEN, ())), len(states))
        self.assertEqual(cut_down(book, TEN, ()), ())
        self.assertEqual(built_up(book, (), TEN), TEN)
        self.assertEqual(locked_within(book, TEN, ()), None)

    def test_lots_of_ten_services(self):
        middle = helper.all_lots(TEN)
        book = Rulebook(TEN, [("table", TEN, [state for state in middle if 4 <= len(state) <= 6])])
        self.assertEqual(len(greatest_between(book, (), TEN)), 210)
        self.assertEqual(len(least_between(book, (), TEN)), 210)
        self.assertEqual((core(book, TEN), hull(book, ())), ((), TEN))
        self.assertTrue(bad_cuts(book, TEN))
        self.assertTrue(bad_joins(book, ()))
        self.assertIs(is_bendable(book, low=TEN[:3]), False)

    def test_a_text_with_sixty_rules(self):
        rules = heavy_rules(TEN, 60)
        book = read_book(text_of(Rulebook(TEN, rules)))
        self.assertEqual(book, Rulebook(TEN, rules))
        self.assertEqual(book.states(), tuple(helper.allowed(TEN, rules[:5])))

    def test_all_states_of_six_services(self):
        for rules in (heavy_rules(SIX, 30), [], [("cap", [(name, 1) for name in SIX], 3)]):
            book = Rulebook(SIX, rules)
            states = helper.allowed(SIX, rules[:5])
            self.assertEqual(is_bendable(book), helper.is_bendable(states))
            self.assertEqual(bad_pairs(book), tuple(helper.bad_pairs(states)))
            self.assertEqual(least_bad_pair(book) is None, is_bendable(book))
            self.assertEqual(locked_changes(book) == (), is_bendable(book))
            self.assertEqual(helper.allowed(SIX, prime_rules(book)), states)
            asked = ("imply", SIX[:3], SIX[3:])
            told = "prime" if all(helper.rule_allows(asked, state) for state in states) else "state"
            self.assertEqual(follow_paper(book, asked)[0], told)

    def test_prime_rules_of_one_rule(self):
        for rule in heavy_rules(SIX, 5):
            self.assertTrue(len(prime_of(Rulebook(SIX, [rule]).rules[0])) <= 60)

    def test_needless_rules(self):
        rules = heavy_rules(TEN, 8)
        book = Rulebook(TEN, rules)
        self.assertEqual(needless_alone(book), tuple(at for at in range(8) if at != 4))
        self.assertEqual(needless_in_turn(book), tuple(at for at in range(8) if at != 4))
        self.assertEqual(least_rules(book), ((4,),))
        self.assertEqual(useful(book), (4,))
        self.assertEqual(witness(book, 4), TEN[:5])


if __name__ == "__main__":
    unittest.main()
