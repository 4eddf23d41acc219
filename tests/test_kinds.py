"""[38] to [40]: kinds of rules and rulebooks, and what they do to bendable ones."""

import itertools
import random
import unittest

from stopsfirst.court import is_bendable
from stopsfirst.errors import InvalidQuestion, InvalidRule, InvalidServices
from stopsfirst.kinds import harm, need_harm, open_pair, rule_open_pair
from stopsfirst.rulebooks import Rulebook
from stopsfirst.rules import made_rule, names_of
from tests import helper
from tests.helper import Weird, join, lot, lots, meet, minus, raised

WORDS = ("meet", "join", "either")
FREE = Rulebook(lot("ab"), [])
TORN = Rulebook(lot("ab"), [("table", lot("ab"), lots("a b"))])
NONE = Rulebook(lot("ab"), [("imply", (), ())])
BOOKS = helper.random_books(381, 80)


def gap(states, word):
    """The first pair that shows that lots are not closed under a word, from going through all pairs."""
    for a in sorted(states):
        for b in sorted(states):
            has = {"meet": meet(a, b) in states, "join": join(a, b) in states}
            if not (has["meet"] or has["join"] if word == "either" else has[word]):
                return (a, b)
    return None


def lots_of(rule):
    """The lots of its names that a kept rule allows."""
    return [told for told in helper.all_lots(names_of(rule)) if helper.rule_allows(rule, told)]


class OpenPairTest(unittest.TestCase):
    def test_by_words(self):
        found = set()
        for services, rules in BOOKS:
            states = helper.allowed(services, rules)
            for word in WORDS:
                told = gap(states, word)
                self.assertEqual(open_pair(Rulebook(services, rules), word), told)
                found.add((word, told is None))
                if told is None:
                    self.assertIs(is_bendable(Rulebook(services, rules)), True)
        self.assertEqual(len(found), 6)

    def test_by_hand(self):
        for word in WORDS:
            self.assertEqual(open_pair(TORN, word), lots("a b"))
            self.assertIsNone(open_pair(FREE, word))
            self.assertIsNone(open_pair(NONE, word))
        book = Rulebook(lot("abc"), [("imply", lot("ab"), ())])
        self.assertIsNone(open_pair(book, "meet"))
        self.assertIsNone(open_pair(book, "either"))
        self.assertEqual(open_pair(word="join", book=book), lots("a b"))

    def test_other_words(self):
        for odd in helper.ODD_VALUES + ("Meet", "meets", "", b"meet", ("meet",), ["meet"], Weird()):
            self.assertEqual(raised(open_pair, FREE, odd), (InvalidQuestion, 1), repr(odd))


class RuleOpenPairTest(unittest.TestCase):
    def test_by_words(self):
        chance = random.Random(382)
        found = set()
        for _ in range(300):
            rule = helper.random_rule(chance, "abcd")
            for word in WORDS:
                told = gap(lots_of(made_rule(lot("abcd"), rule)), word)
                self.assertEqual(rule_open_pair(list("dcba"), rule, word), told)
                found.add((word, told is None))
        self.assertEqual(len(found), 6)

    def test_implies(self):
        for xs, ys in itertools.product(helper.all_lots("abc"), repeat=2):
            if not meet(xs, ys):
                rule = ("imply", xs, ys)
                self.assertIs(rule_open_pair(lot("abc"), rule, "meet") is None, len(ys) <= 1)
                self.assertIs(rule_open_pair(lot("abc"), rule, "join") is None, len(xs) <= 1)
                self.assertIsNone(rule_open_pair(lot("abc"), rule, "either"))

    def test_caps_cuts_and_feeds(self):
        chance = random.Random(383)
        seen = set()
        for _ in range(400):
            rule = helper.random_rule(chance, "abcd")
            if rule[0] in ("cap", "cut", "feed"):
                self.assertIsNone(rule_open_pair(lot("abcd"), rule, "either"), rule)
                seen.add(rule[0])
            if rule[0] == "cap":
                self.assertIsNone(rule_open_pair(lot("abcd"), rule, "meet"))
                alone = [number for _, number in rule[1] if number <= rule[2]]
                self.assertIs(rule_open_pair(lot("abcd"), rule, "join") is None, sum(alone) <= rule[2])
        self.assertEqual(len(seen), 3)

    def test_only_the_names_of_the_rule_count(self):
        rule = ["table", ["b", "a"], [["b"], ["a"]]]
        self.assertEqual(rule_open_pair(tuple("abcdefghij"), rule, "either"), lots("a b"))
        self.assertEqual(rule_open_pair(word="meet", rule=rule, services=["b", "a"]), lots("a b"))

    def test_rules_without_names_and_void_ones(self):
        for rule in (("imply", (), ()), ("cap", (), 0), ("cut", (), 5), ("feed", (), (), -1), ("table", (), ()),
                     ("table", (), [()]), ("imply", ("a", "b"), ("b", "c"))):
            for word in WORDS:
                self.assertIsNone(rule_open_pair(lot("abc"), rule, word), rule)

    def test_errors_in_their_order(self):
        rule = ("imply", ("a",), ())
        for odd in helper.ODD_VALUES + (Weird(), ["a", "a"], ["a", 1]):
            if raised(Rulebook, odd, []):
                self.assertEqual(raised(rule_open_pair, odd, 5, 5), raised(Rulebook, odd, []), repr(odd))
                self.assertEqual(raised(harm, odd, 5), raised(Rulebook, odd, []), repr(odd))
        self.assertEqual(raised(rule_open_pair, ["a", "b", "a"], 5, 5), (InvalidServices, 2))
        self.assertEqual(raised(harm, ["a", "B"], 5), (InvalidServices, 1))
        for odd in helper.ODD_VALUES + (Weird(), ("imply", ("z",), ()), ("cap", [("a", True)], 1), ("imply", ("a",))):
            self.assertEqual(raised(rule_open_pair, lot("ab"), odd, 5), (InvalidRule, 0), repr(odd))
            self.assertEqual(raised(harm, lot("ab"), odd), (InvalidRule, 0), repr(odd))
        for odd in helper.ODD_VALUES + ("Join", Weird()):
            self.assertEqual(raised(rule_open_pair, lot("ab"), rule, odd), (InvalidQuestion, 2), repr(odd))


def middles_left(family, rule, a, b):
    """The middles that two states have when what a rule forbids is left out of a family."""
    return helper.middles([state for state in family if helper.rule_allows(rule, state)], a, b)


def strictly_between(services, low, high):
    return [told for told in helper.all_lots(services) if helper.proper(low, told) and helper.proper(told, high)]


def harm_by_words(services, rule):
    every = helper.all_lots(services)
    good = [state for state in every if helper.rule_allows(rule, state)]
    for tell in (meet, join):
        for a in good:
            for b in good:
                if tell(a, b) not in good:
                    return (tuple(sorted({a, b, tell(a, b)})), a, b)
    for a in good:
        for b in good:
            if len(minus(a, b)) < 2 or len(minus(b, a)) < 2:
                continue
            xs = [x for x in strictly_between(services, meet(a, b), a) if x not in good]
            if xs:
                x, y = xs[0], strictly_between(services, meet(a, b), b)[0]
                return (tuple(sorted({a, b, x, y, join(x, y), join(x, b), join(y, a)})), a, b)
    return None


class HarmTest(unittest.TestCase):
    def check(self, services, rule):
        told = harm(services, rule)
        self.assertEqual(told, harm_by_words(services, rule))
        if told is not None:
            states, a, b = told
            self.assertTrue(helper.is_bendable(states))
            self.assertTrue(helper.rule_allows(rule, a) and helper.rule_allows(rule, b))
            self.assertTrue(helper.middles(states, a, b))
            self.assertEqual(middles_left(states, rule, a, b), [])
        return told

    def test_random_rules(self):
        chance = random.Random(384)
        for _ in range(150):
            self.check(lot("abcd"), helper.random_rule(chance, "abcd"))
        for _ in range(60):
            self.check(lot("abcde"), helper.random_rule(chance, "abcd"))

    def test_tables_of_all_kinds(self):
        chance = random.Random(385)
        lengths = set()
        for at in range(300):
            share = (0.9, 0.97)[at % 2]
            told = self.check(lot("abcd"), helper.table_of(
                "abcd", [state for state in helper.all_lots("abcd") if chance.random() < share])[0])
            lengths.add(0 if told is None else len(told[0]))
        chain = helper.table_of("abcd", lots("- a abcd b ab"))[0]
        self.check(lot("abcd"), chain)
        self.assertLessEqual({0, 3}, lengths)

    def test_wide_pairs(self):
        """Closed under meet and join, but a lot between is forbidden: the seven states are told."""
        rule = ("imply", ("a",), ("b",))
        told = self.check(lot("abcd"), rule)
        self.assertEqual(told, (lots("a ab abc ac acd c cd"), lot("ab"), lot("cd")))
        rule = ["table", list("abcd"), lots("- ab cd abcd")]
        self.assertEqual(self.check(lot("abcd"), rule)[1:], lots("ab cd"))

    def test_tables_closed_under_both(self):
        """Random lots with all their meets and joins; harm is done between wide pairs, wherever their services stand."""
        chance = random.Random(388)
        lengths = set()
        for _ in range(250):
            states = {chance.choice(helper.all_lots("abcde")) for _ in range(chance.randrange(2, 7))}
            while True:
                more = states | {tell(a, b) for a in states for b in states for tell in (meet, join)}
                if more == states:
                    break
                states = more
            told = self.check(lot("abcde"), helper.table_of("abcde", sorted(states))[0])
            lengths.add(told and len(told[0]))
            wide = [b for b in states if told and b == told[2] and len(told[0]) == 7]
            lengths |= {"late" for b in wide if b < meet(told[1], b)}
        self.assertEqual(lengths, {None, 7, "late"})

    def test_all_bendable_families(self):
        """No rule about three services does harm only between wide pairs, so here all families tell."""
        chance = random.Random(386)
        for services in ("a", "ab", "abc"):
            every = helper.all_lots(services)
            families = [[state for k, state in enumerate(every) if chosen >> k & 1]
                        for chosen in range(1 << len(every))]
            families = [family for family in families if helper.is_bendable(family)]
            for _ in range(25):
                rule = helper.random_rule(chance, services)
                spared = all(helper.is_bendable([state for state in family if helper.rule_allows(rule, state)])
                             for family in families)
                self.assertIs(harm(services=lot(services), rule=rule) is None, spared, rule)

    def test_by_hand(self):
        self.assertEqual(harm(list("ba"), ["imply", ["a", "b"], []]), (lots("a ab b"), lot("a"), lot("b")))
        self.assertEqual(harm(lot("ab"), ("imply", (), lot("ab"))), (lots("- a b"), lot("a"), lot("b")))
        self.assertIsNone(harm(lot("ab"), ("imply", lot("a"), lot("b"))))
        self.assertIsNone(harm(lot("ab"), ("imply", (), ())))
        self.assertIsNone(harm(lot("abc"), ("imply", (), lot("a"))))


class NeedHarmTest(unittest.TestCase):
    def test_by_words(self):
        found = set()
        for services, rules in BOOKS:
            book = Rulebook(services, rules)
            states = helper.allowed(services, rules)
            told = need_harm(book)
            pair = gap(states, "either")
            if pair is None:
                self.assertIsNone(told)
                continue
            alone = minus(*pair)
            self.assertEqual(told, (*pair, tuple(itertools.permutations(alone, 2))))
            found.add(len(alone))
            needs = book.with_rules([("imply", (x,), (y,)) for x, y in told[2]])
            self.assertTrue(needs.allows(told[0]) and needs.allows(told[1]))
            self.assertEqual(helper.middles(list(needs.states()), told[0], told[1]), [])
        self.assertLessEqual({1, 2, 3}, found)

    def test_all_needs_where_it_is_closed(self):
        """With three services all rulebooks with needs can be gone through."""
        pairs = list(itertools.permutations("abc", 2))
        for services, rules in helper.random_books(387, 40, "abc"):
            book = Rulebook(services, rules)
            bendable = all(is_bendable(book.with_rules([("imply", (x,), (y,)) for k, (x, y) in enumerate(pairs)
                                                        if chosen >> k & 1])) for chosen in range(64))
            self.assertIs(need_harm(book) is None, bendable)

    def test_by_hand(self):
        self.assertEqual(need_harm(TORN), (lot("a"), lot("b"), ()))
        self.assertIsNone(need_harm(FREE))
        self.assertIsNone(need_harm(NONE))
        book = Rulebook(lot("abc"), [("table", lot("abc"), lots("ab c"))])
        self.assertEqual(need_harm(book=book), (lot("ab"), lot("c"), (("a", "b"), ("b", "a"))))


if __name__ == "__main__":
    unittest.main()
