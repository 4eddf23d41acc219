"""[10], [11] and [12]: prime rules, papers, and needless rules."""

import itertools
import random
import unittest

from stopsfirst.errors import InvalidQuestion, InvalidRule
from stopsfirst.primes import (
    follow_paper, is_follow_paper, least_rules, needless_alone, needless_in_turn, prime_of, prime_rules, useful, witness,
)
from stopsfirst.rulebooks import Rulebook
from stopsfirst.rules import made_rule, names_of
from tests import helper
from tests.helper import Weird, lot, lots, raised

BOOKS = helper.random_books(31, 50) + helper.random_books(32, 20, "abc") + helper.random_books(33, 6, "a")
BAD_INDEXES = (None, True, False, -1, "0", 1.0, [], [0], (0,), {}, {0}, object(), Weird())


def implies(services):
    """All kept imply rules about the services that are not void, ascending."""
    every = helper.all_lots(services)
    return [("imply", xs, ys) for xs in every for ys in every if not set(xs) & set(ys)]


def all_allowed(states, rule):
    return all(helper.rule_allows(rule, state) for state in states)


def shorter(rule):
    """The rules with one service left out of xs or ys."""
    _, xs, ys = rule
    left = [("imply", helper.minus(xs, (x,)), ys) for x in xs]
    return left + [("imply", xs, helper.minus(ys, (y,))) for y in ys]


def primes_by_words(services, states):
    return tuple(rule for rule in implies(services)
                 if all_allowed(states, rule) and not any(all_allowed(states, other) for other in shorter(rule)))


def inside(rule, outer):
    return helper.part(rule[1], outer[1]) and helper.part(rule[2], outer[2])


class PrimeTest(unittest.TestCase):
    def test_prime_rules(self):
        for services, rules in BOOKS:
            states = helper.allowed(services, rules)
            told = prime_rules(Rulebook(services, rules))
            self.assertEqual(told, primes_by_words(services, states))
            self.assertEqual(helper.allowed(services, told), states)

    def test_facts(self):
        meets, joins = set(), set()
        for services, rules in BOOKS:
            states = helper.allowed(services, rules)
            told = prime_rules(Rulebook(services, rules))
            meet_closed = all(helper.meet(a, b) in states for a in states for b in states)
            join_closed = all(helper.join(a, b) in states for a in states for b in states)
            self.assertEqual(meet_closed, all(len(rule[2]) <= 1 for rule in told))
            self.assertEqual(join_closed, all(len(rule[1]) <= 1 for rule in told))
            meets.add(meet_closed)
            joins.add(join_closed)
        self.assertEqual((meets, joins), ({True, False}, {True, False}))

    def test_edges(self):
        self.assertEqual(prime_rules(Rulebook(lot("ab"), [])), ())
        self.assertEqual(prime_rules(Rulebook(lot("ab"), [("imply", (), ())])), (("imply", (), ()),))
        self.assertEqual(prime_rules(Rulebook(lot("ab"), [("imply", ["a"], ["a", "b"])])), ())
        self.assertEqual(prime_rules(book=Rulebook(lot("ab"), [("cap", [["a", 1]], 0)])), (("imply", ("a",), ()),))
        chain = Rulebook(lot("abc"), [("imply", ["a"], ["b"]), ("imply", ["b"], ["c"])])
        self.assertEqual(prime_rules(chain), tuple(
            ("imply", (x,), (y,)) for x, y in (("a", "b"), ("a", "c"), ("b", "c"))))

    def test_six_services(self):
        services = lot("abcdef")
        rules = [("cap", [[name, 1] for name in services], 3), ("imply", ["a"], ["e", "f"]), ("imply", [], ["b"])]
        told = prime_rules(Rulebook(services, rules))
        self.assertEqual(told, primes_by_words(services, helper.allowed(services, rules)))

    def test_prime_of(self):
        chance = random.Random(34)
        for services in ("abcd", "abc", "ab", "bd"):
            for _ in range(40):
                rule = made_rule(lot(services), helper.random_rule(chance, services))
                names = names_of(rule)
                states = [state for state in helper.all_lots(names) if helper.rule_allows(rule, state)]
                self.assertEqual(prime_of(rule), primes_by_words(names, states), rule)

    def test_prime_of_rules_without_services(self):
        never = (("imply", (), ()),)
        for rule, told in (
            (("imply", (), ()), never), (("cap", (), 0), ()), (("cut", (), 3), ()), (("feed", (), (), 0), ()),
            (("feed", (), (), -1), never), (("table", (), ()), never), (("table", (), ((),)), ()),
        ):
            self.assertEqual(prime_of(rule), told)
        self.assertEqual(prime_of(rule=("cap", (("a", 0),), 0)), ())
        self.assertEqual(prime_of(("imply", lot("ab"), lot("b"))), ())
        self.assertEqual(prime_of(("table", lot("ab"), ())), never)

    def test_prime_of_six_services(self):
        rule = ("table", lot("abcdef"), lots("- a ab abc abcd abcde abcdef f"))
        self.assertEqual(prime_of(rule), primes_by_words(lot("abcdef"), rule[2]))


class PaperTest(unittest.TestCase):
    def test_follow_paper(self):
        words = set()
        for services, rules in BOOKS[:24]:
            book = Rulebook(services, rules)
            states = helper.allowed(services, rules)
            primes = primes_by_words(services, states)
            for rule in implies(services):
                bad = [state for state in states if not helper.rule_allows(rule, state)]
                told = ("state", bad[0]) if bad else ("prime", [p for p in primes if inside(p, rule)][0])
                self.assertEqual(follow_paper(book, rule), told)
                self.assertIs(is_follow_paper(book, rule, told), True)
                words.add(told[0])
        self.assertEqual(words, {"prime", "state"})

    def test_is_follow_paper(self):
        for services, rules in BOOKS[50:62]:
            book = Rulebook(services, rules)
            states = helper.allowed(services, rules)
            for rule in implies(services)[::3]:
                for paper in implies(services):
                    told = inside(paper, rule) and all_allowed(states, paper)
                    self.assertIs(is_follow_paper(book, rule, ("prime", paper)), told)
                for state in helper.all_lots(services + ("z",)):
                    told = state in states and not helper.rule_allows(rule, state)
                    self.assertIs(is_follow_paper(book, rule, ("state", state)), told)

    def test_the_rule_in_any_form(self):
        book = Rulebook(lot("abc"), [("imply", ["a"], ["b"])])
        for rule in (("imply", lot("ac"), lot("b")), ["imply", ["c", "a"], ["b"]]):
            self.assertEqual(follow_paper(book, rule), ("prime", ("imply", ("a",), ("b",))))
            self.assertIs(is_follow_paper(book, rule, ("prime", ("imply", ("a",), ("b",)))), True)
            self.assertIs(is_follow_paper(book, rule, ("prime", ("imply", lot("ac"), ("b",)))), True)
            self.assertIs(is_follow_paper(book, rule, ("prime", ("imply", ("c",), ("b",)))), False)
        self.assertEqual(follow_paper(book=book, rule=["imply", ["c"], []]), ("state", lot("abc")))

    def test_spoilt_papers(self):
        book = Rulebook(lot("abc"), [("imply", ["a"], ["b"])])
        follows = ("imply", lot("ac"), lot("b"))
        good = ("imply", lot("a"), lot("b"))
        for value in (
            ["prime", good], ("prime",), ("prime", good, good), ("state", good), ("Prime", good), (good, "prime"),
            ("prime", list(good)), ("prime", ("imply", ["a"], ("b",))), ("prime", ("imply", ("a",), ["b"])),
            ("prime", good[1:]), ("prime", ("need", "a", "b")), ("prime", ("cap", (), 0)), ("prime", None),
            ("prime", ("imply", ("a", "a"), ("b",))), ("prime", ("imply", "a", "b")), ("prime", ("table", (), ((),))),
            ("prime", ("imply", ("c", "a"), ("b",))), ("prime", good + ((),)), ("prime", ("imply", ("a",), ("z",))),
            ("prime", Weird()), (Weird(), good), Weird(), ("prime", ("imply", Weird(), Weird())), (None, None),
            ("", good), (b"prime", good), (["prime"], good), ("state", None), {"prime": good},
        ) + helper.ODD_VALUES:
            self.assertIs(is_follow_paper(book, follows, value), False, repr(value))
        forbidden = ("imply", ("c",), ("a",))
        self.assertIs(is_follow_paper(book, forbidden, ("state", lot("c"))), True)
        self.assertIs(is_follow_paper(book, forbidden, ("state", lot("bc"))), True)
        for value in (
            ("state", lot("ac")), ("state", lot("abc")), ("state", ()), ("state", ["c"]), ("state", ("c", "c")),
            ("state", "c"), ("state", ("c", "b")), ("state", ("z",)), ("state", Weird()), ["state", lot("c")],
            ("prime", lot("c")), ("state", lot("c"), 0), (lot("c"), "state"), ("state", lot("cz")),
            ("State", lot("c")), ("", lot("c")), (None, lot("c")), (b"state", lot("c")), (Weird(), lot("c")),
        ):
            self.assertIs(is_follow_paper(book, forbidden, value), False, repr(value))

    def test_errors(self):
        book = Rulebook(lot("ab"), [])
        for ask in (follow_paper, lambda asked, rule: is_follow_paper(asked, rule, None)):
            for value in helper.ODD_VALUES + (("imply", ["c"], []), ("imply", []), Weird()):
                self.assertEqual(raised(ask, book, value), (InvalidRule, 0), repr(value))
            for value in (("cap", [], 0), ["cut", [], 0], ("feed", [], [], 0), ("table", [], []),
                          ("imply", ["a"], ["a"]), ["imply", ["b", "a"], ["b"]]):
                self.assertEqual(raised(ask, book, value), (InvalidQuestion, 1), repr(value))

    def test_no_allowed_state(self):
        book = Rulebook(lot("ab"), [("imply", (), ())])
        for rule in implies("ab"):
            self.assertEqual(follow_paper(book, rule), ("prime", ("imply", (), ())))


class NeedlessTest(unittest.TestCase):
    def books(self):
        books = [(lot("abc"), told) for told in many_rules(35, 40, "abc")]
        return books + [(lot("abcd"), told) for told in many_rules(36, 20, "abcd")]

    def test_witness(self):
        found = set()
        for services, rules in self.books():
            book = Rulebook(services, rules)
            for at in range(len(rules)):
                told = None
                for state in helper.all_lots(services):
                    if [k for k, rule in enumerate(rules) if not helper.rule_allows(rule, state)] == [at]:
                        told = state
                        break
                self.assertEqual(witness(book, at), told)
                found.add(told is None)
        self.assertEqual(found, {True, False})

    def test_no_index(self):
        for rules in ([], [("imply", (), ())], [("imply", (), ())] * 3):
            book = Rulebook(lot("ab"), rules)
            for at in BAD_INDEXES + (len(rules), len(rules) + 5, -len(rules) - 1):
                self.assertEqual(raised(witness, book, at), (InvalidQuestion, 1), repr(at))
        self.assertEqual(witness(book=Rulebook(lot("ab"), [("imply", (), ["b"])]), at=0), ())

    def test_needless_alone(self):
        for services, rules in self.books():
            states = helper.allowed(services, rules)
            told = tuple(at for at in range(len(rules))
                         if helper.allowed(services, rules[:at] + rules[at + 1:]) == states)
            self.assertEqual(needless_alone(Rulebook(services, rules)), told)

    def test_needless_in_turn(self):
        for services, rules in self.books():
            states = helper.allowed(services, rules)
            there = list(range(len(rules)))
            for at in range(len(rules) - 1, -1, -1):
                fewer = [k for k in there if k != at]
                if helper.allowed(services, [rules[k] for k in fewer]) == states:
                    there = fewer
            told = tuple(at for at in range(len(rules)) if at not in there)
            self.assertEqual(needless_in_turn(Rulebook(services, rules)), told)

    def test_least_rules_and_useful(self):
        for services, rules in self.books():
            book = Rulebook(services, rules)
            told = least_by_words(services, rules)
            self.assertEqual(least_rules(book), told)
            self.assertEqual(useful(book), tuple(sorted(set(at for indexes in told for at in indexes))))
            in_all = [at for at in range(len(rules)) if all(at in indexes for indexes in told)]
            self.assertEqual(in_all, [at for at in range(len(rules)) if witness(book, at) is not None])

    def test_edges(self):
        empty = Rulebook(lot("ab"), [])
        self.assertEqual((needless_alone(empty), needless_in_turn(empty), useful(empty)), ((), (), ()))
        self.assertEqual(least_rules(empty), ((),))
        void = Rulebook(lot("ab"), [("imply", ["a"], ["a"])])
        self.assertEqual((needless_alone(void), needless_in_turn(void), useful(void)), ((0,), (0,), ()))
        self.assertEqual(least_rules(void), ((),))
        self.assertIsNone(witness(void, 0))
        twice = Rulebook(lot("ab"), [("imply", ["a"], []), ("imply", ["a"], [])])
        self.assertEqual((needless_alone(twice), needless_in_turn(twice), useful(twice)), ((0, 1), (1,), (0, 1)))
        self.assertEqual(least_rules(twice), ((0,), (1,)))
        never = Rulebook(lot("ab"), [("imply", ["a"], []), ("imply", [], ["a"]), ("table", [], [])])
        self.assertEqual(least_rules(never), ((0, 1), (2,)))
        self.assertEqual(needless_alone(never), (0, 1, 2))
        self.assertEqual(needless_in_turn(never), (2,))

    def test_eight_rules(self):
        rules = [("imply", [x], [y]) for x, y in ("ab", "bc", "ca", "ac", "cb", "ba", "ad", "dc")]
        book = Rulebook(lot("abcd"), rules)
        self.assertEqual(least_rules(book), least_by_words(lot("abcd"), rules))
        self.assertEqual(useful(book), (0, 1, 2, 4, 5, 6, 7))


def least_by_words(services, rules):
    states = helper.allowed(services, rules)
    same = [indexes for count in range(len(rules) + 1) for indexes in itertools.combinations(range(len(rules)), count)
            if helper.allowed(services, [rules[at] for at in indexes]) == states]
    return helper.least(same)


def many_rules(seed, many, services):
    """Lists of up to six rules, so that some are needless."""
    chance = random.Random(seed)
    return [[helper.random_rule(chance, services) for _ in range(chance.randrange(7))] for _ in range(many)]


if __name__ == "__main__":
    unittest.main()
