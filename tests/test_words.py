"""[41] and [42]: sources that lead a rulebook, and papers that show them or that there are none."""

import itertools
import random
import unittest

from stopsfirst.court import is_bendable
from stopsfirst.errors import InvalidQuestion, InvalidState
from stopsfirst.rulebooks import Rulebook
from stopsfirst.words import is_pair_paper, is_source_paper, led_middle, misfit, pair_paper, source_paper
from tests import helper
from tests.helper import Weird, join, lot, lots, meet, part, raised

FREE = Rulebook(lot("ab"), [])
TORN = Rulebook(lot("ab"), [("table", lot("ab"), lots("a b"))])
NONE = Rulebook(lot("ab"), [("imply", (), ())])
STEADY = Rulebook(lot("abcd"), [("imply", (), lot("ab")), ("imply", lot("a"), lot("c")), ("imply", lot("cd"), ())])
BOOKS = helper.random_books(411, 80) + helper.random_books(412, 20, "abc") + helper.random_books(413, 40, rules=6)


def led(sources, a, b):
    return tuple(sorted((set(sources) & set(a)) | (set(a) & set(b))))


def gap(states, sources):
    for a in states:
        for b in states:
            middle = led(sources, a, b)
            if middle not in states or join(middle, b) not in states:
                return (a, b)
    return None


def primes(services, states):
    """All prime rules as pairs (xs, ys), by going through all pairs of lots without a common service."""
    every = helper.all_lots(services)

    def follows(xs, ys):
        return all(helper.rule_allows(("imply", xs, ys), state) for state in states)

    def drop(told, name):
        return tuple(other for other in told if other != name)

    return [(xs, ys) for xs in every for ys in every if not meet(xs, ys) and follows(xs, ys)
            and not any(follows(drop(xs, x), ys) for x in xs) and not any(follows(xs, drop(ys, y)) for y in ys)]


def is_way(rules, names):
    return (any(names[0] in ys and len(ys) > 1 for _, ys in rules)
            and any(names[-1] in xs and len(xs) > 1 for xs, _ in rules)
            and all(((x,), (y,)) in rules for x, y in zip(names, names[1:])))


def paper_by_words(services, states):
    leading = [sources for sources in helper.all_lots(services) if gap(states, sources) is None]
    if leading:
        return ("sources", [sources for sources in leading if all(part(sources, other) for other in leading)][0])
    rules = primes(services, states)
    for many in range(1, len(services) + 1):
        for names in itertools.product(sorted(services), repeat=many):
            if is_way(rules, names):
                return ("way", names)
    return None


class LedTest(unittest.TestCase):
    def test_led_middles(self):
        every = helper.all_lots("abc")
        for sources, a, b in itertools.product(every, repeat=3):
            self.assertEqual(led_middle(sources, a, b), led(sources, a, b))
        self.assertEqual(led_middle(second=lot("b"), first=lot("abc"), sources=lot("ad")), lot("ab"))

    def test_misfits(self):
        found = set()
        for services, rules in BOOKS:
            states = helper.allowed(services, rules)
            for sources in helper.all_lots(services):
                told = misfit(Rulebook(services, rules), sources)
                self.assertEqual(told, gap(states, sources))
                found.add(told is None)
                if told is None:
                    self.assertTrue(helper.is_bendable(states))
        self.assertEqual(found, {True, False})

    def test_by_hand(self):
        self.assertEqual(misfit(TORN, ()), lots("a b"))
        self.assertEqual(misfit(sources=lot("ab"), book=TORN), lots("a b"))
        self.assertIsNone(misfit(FREE, lot("a")))
        self.assertIsNone(misfit(NONE, lot("ab")))
        for odd in helper.ODD_VALUES + (["a"], lot("abc"), Weird(), (Weird(),)):
            self.assertEqual(raised(misfit, FREE, odd), (InvalidState, 0), repr(odd))

    def test_prime_rules_tell_what_leads(self):
        """The fact at the end of [41]."""
        for services, rules in BOOKS:
            states = helper.allowed(services, rules)
            told = primes(services, states)
            for sources in helper.all_lots(services):
                fine = all((not meet(xs, sources) and (part(ys, sources) or len(ys) <= 1))
                           or (part(ys, sources) and len(xs) <= 1) for xs, ys in told)
                self.assertIs(misfit(Rulebook(services, rules), sources) is None, fine)


class SourcePaperTest(unittest.TestCase):
    def test_by_words(self):
        found = set()
        for services, rules in BOOKS:
            states = helper.allowed(services, rules)
            told = source_paper(Rulebook(services, rules))
            self.assertEqual(told, paper_by_words(services, states))
            found.add((told[0], len(told[1])))
            self.assertIs(is_source_paper(Rulebook(services, rules), told), True)
        self.assertLessEqual({("sources", 0), ("sources", 2), ("way", 1)}, found)

    def test_long_ways(self):
        """A way of one name is there unless what leads out of both wide and narrow rules follows already."""
        long = [("imply", lot("e"), lot("af")), ("imply", lot("e"), lot("b")), ("imply", lot("a"), lot("b")),
                ("imply", lot("bc"), lot("d")), ("imply", lot("a"), lot("d"))]
        self.assertEqual(source_paper(Rulebook(lot("abcdef"), long)), ("way", lot("ab")))
        turned = [tuple(tuple("febcda"["abcdef".index(name)] for name in lot_told) for lot_told in rule[1:])
                  for rule in long]
        told = [("imply", xs, ys) for xs, ys in turned]
        self.assertEqual(source_paper(Rulebook(lot("abcdef"), told)), ("way", lot("fe")))
        chance = random.Random(417)
        lengths = set()
        for _ in range(60):
            told = long + [("imply", chance.sample("abcdef", 1), chance.sample("abcdef", 2)) for _ in range(2)]
            book = Rulebook(lot("abcdef"), told[chance.randrange(2):])
            paper = paper_by_words("abcdef", list(book.states()))
            self.assertEqual(source_paper(book), paper)
            lengths.add((paper[0], len(paper[1])))
        self.assertLessEqual({("way", 1), ("way", 2)}, lengths)

    def test_pairs_of_names(self):
        """Rules about two services make longer ways."""
        chance = random.Random(414)
        lengths = set()
        for _ in range(120):
            rules = [random_pair_rule(chance, "abcd") for _ in range(chance.randrange(2, 7))]
            told = source_paper(Rulebook(lot("abcd"), rules))
            self.assertEqual(told, paper_by_words("abcd", helper.allowed("abcd", rules)))
            lengths.add((told[0], len(told[1])))
        self.assertLessEqual({("way", 1), ("sources", 0), ("sources", 3)}, lengths)

    def test_by_hand(self):
        self.assertEqual(source_paper(TORN), ("way", lot("a")))
        self.assertEqual(source_paper(NONE), ("sources", ()))
        self.assertEqual(source_paper(FREE), ("sources", ()))
        self.assertEqual(source_paper(book=STEADY)[0], "way")
        self.assertEqual(source_paper(Rulebook(lot("abc"), [("imply", (), lot("ab"))])), ("sources", lot("ab")))


class IsSourcePaperTest(unittest.TestCase):
    def test_all_lots_and_ways(self):
        found = set()
        for services, rules in BOOKS:
            book = Rulebook(services, rules)
            states = helper.allowed(services, rules)
            known = primes(services, states)
            for sources in helper.all_lots(services):
                right = gap(states, sources) is None
                self.assertIs(is_source_paper(book, ("sources", sources)), right)
                found.add(("sources", right))
            for many in range(1, 4):
                for names in itertools.product(services, repeat=many):
                    right = is_way(known, names)
                    self.assertIs(is_source_paper(book, ("way", names)), right)
                    found.add(("way", many, right))
        self.assertGreaterEqual(len(found), 7)

    def test_longer_ways(self):
        book = Rulebook(lot("abcd"), [("imply", (), lot("ab")), ("imply", lot("a"), lot("c")),
                                      ("imply", lot("c"), lot("a")), ("imply", lot("cd"), ())])
        for names in ("a", "c", "ac", "ca", "aca", "acac", "acacac"):
            known = primes("abcd", list(book.states()))
            self.assertIs(is_source_paper(book, ("way", tuple(names))), is_way(known, tuple(names)))
        self.assertIs(is_source_paper(book, ("way", tuple("acacac"))), True)

    def test_spoilt_values(self):
        self.assertIs(is_source_paper(TORN, ("way", lot("a"))), True)
        self.assertIs(is_source_paper(value=("sources", lot("ab")), book=FREE), True)
        for odd in helper.ODD_VALUES + ((), Weird(), (Weird(),), lot("z"), ("a", "z")):
            self.assertIs(is_source_paper(TORN, ("way", odd)), False, repr(odd))
            self.assertIs(is_source_paper(TORN, ("way", lot("a"), odd)), False, repr(odd))
            self.assertIs(is_source_paper(TORN, (odd, lot("a"))), False, repr(odd))
            self.assertIs(is_source_paper(TORN, odd), False, repr(odd))
            if odd != ():
                self.assertIs(is_source_paper(FREE, ("sources", odd)), False, repr(odd))
            self.assertIs(is_source_paper(FREE, (odd, lot("a"))), False, repr(odd))
        for value in (["sources", ()], ("sources",), ("sources", (), ()), ("sources", ["a"]), ("way", ["a"]),
                      ["way", lot("a")], ("ways", lot("a")), ("way", "a"), ("sources", ""), ("way", lot("za")),
                      ("way", lot("az"))):
            self.assertIs(is_source_paper(FREE, value), False)
            self.assertIs(is_source_paper(TORN, value), False)


def random_pair_rule(chance, services):
    x, y = chance.sample(services, 2)
    return chance.choice((("imply", (), (x, y)), ["imply", [x, y], []], ("imply", (x,), [y]), ("imply", (), (x,)),
                          ("imply", (x,), ()), ("imply", [x], [x]), ("imply", [x, y], [x])))


def torn_by_words(services, states):
    for s, x, y in itertools.product(sorted(services), repeat=3):
        if all(s in state or x in state for state in states) and not any(s in state and y in state for state in states):
            without = [state for state in states if x not in state]
            having = [state for state in states if y in state]
            if without and having:
                return ("torn", (s, x, y), without[0], having[0])
    return None


class PairPaperTest(unittest.TestCase):
    def books(self):
        chance = random.Random(415)
        for services in ("abcd", "abc", "ab"):
            for _ in range(120):
                yield services, [random_pair_rule(chance, services) for _ in range(chance.randrange(1, 8))]

    def test_by_words(self):
        found = set()
        for services, rules in self.books():
            book = Rulebook(lot(services), rules)
            states = helper.allowed(services, rules)
            told = pair_paper(book)
            if helper.is_bendable(states):
                self.assertEqual(told, paper_by_words(services, states))
                self.assertEqual(told[0], "sources")
            else:
                self.assertEqual(told, torn_by_words(services, states))
                self.assertEqual(helper.middles(states, told[2], told[3]), [])
                found.add(len(set(told[1])))
            self.assertIs(is_pair_paper(book, told), True)
            found.add(told[0])
        self.assertEqual(found, {"sources", "torn", 2, 3})

    def test_by_hand(self):
        self.assertEqual(pair_paper(Rulebook(lot("ab"), [("imply", (), lot("ab")), ("imply", lot("ab"), ())])),
                         ("torn", lot("abb"), lot("a"), lot("b")))
        self.assertEqual(pair_paper(FREE), ("sources", ()))
        self.assertEqual(pair_paper(NONE), ("sources", ()))
        book = Rulebook(lot("abc"), [("imply", (), lot("ab")), ("imply", lot("ac"), ())])
        self.assertEqual(pair_paper(book=book), ("torn", lot("abc"), lot("a"), lot("bc")))

    def test_other_rules(self):
        for rule in (("cap", (), 1), ("table", lot("a"), lots("a")), ("imply", lot("ab"), lot("c")),
                     ("imply", (), lot("abc")), ("cut", (), 1), ("feed", (), (), 1)):
            book = Rulebook(lot("abc"), [("imply", lot("a"), lot("b")), rule])
            self.assertEqual(raised(pair_paper, book), (InvalidQuestion, 0))
            for value in (None, ("sources", ()), Weird()):
                self.assertEqual(raised(is_pair_paper, book, value), (InvalidQuestion, 0))
        book = Rulebook(lot("abc"), [("imply", lot("ab"), lot("ab")), ("imply", lot("a"), lot("a"))])
        self.assertEqual(pair_paper(book), ("sources", ()))

    def test_all_papers_of_a_kind(self):
        """All lots and triples, with any two states, against the words."""
        chance = random.Random(416)
        found = set()
        for services in ("abc", "ab"):
            for _ in range(12):
                rules = [random_pair_rule(chance, services) for _ in range(chance.randrange(1, 5))]
                book = Rulebook(lot(services), rules)
                states = helper.allowed(services, rules)
                for sources in helper.all_lots(services):
                    self.assertIs(is_pair_paper(book, ("sources", sources)), gap(states, sources) is None)
                for s, x, y in itertools.product(services, repeat=3):
                    holds = not any((s not in c and x not in c) or (s in c and y in c) for c in states)
                    for a, b in itertools.product(helper.all_lots(services), repeat=2):
                        right = holds and a in states and b in states and x not in a and y in b
                        self.assertIs(is_pair_paper(book, ("torn", (s, x, y), a, b)), right)
                        found.add(right)
        self.assertEqual(found, {True, False})

    def test_spoilt_values(self):
        book = Rulebook(lot("abc"), [("imply", (), lot("ab")), ("imply", lot("ac"), ())])
        good = ("torn", lot("abc"), lot("a"), lot("bc"))
        self.assertIs(is_pair_paper(value=good, book=book), True)
        for odd in helper.ODD_VALUES + (Weird(), (Weird(),), lot("z"), lot("abz"), lot("ab"), ("a", "b", 1), ()):
            self.assertIs(is_pair_paper(book, odd), False, repr(odd))
            for at in range(4):
                spoilt = good[:at] + (odd,) + good[at + 1:]
                self.assertIs(is_pair_paper(book, spoilt), False, repr(odd))
                self.assertIs(is_pair_paper(book, list(good)), False)
                triple = list(good[1])
                triple[at % 3] = odd
                if odd != "a" or at % 3:
                    self.assertIs(is_pair_paper(book, ("torn", tuple(triple), *good[2:])), False, repr(odd))
            self.assertIs(is_pair_paper(book, good + (odd,)), False, repr(odd))
        for value in (good[:3], ("torn", list("abc"), *good[2:]), ("sources", lot("a")), ("way", lot("a"))):
            self.assertIs(is_pair_paper(book, value), False)
        self.assertIs(is_pair_paper(FREE, ("sources", ())), True)
        self.assertIs(is_pair_paper(FREE, ("way", ())), False)


if __name__ == "__main__":
    unittest.main()
