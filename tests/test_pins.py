"""[94]: services pinned on and off."""

import itertools
import random
import unittest

from stopsfirst.court import is_bendable
from stopsfirst.errors import InvalidQuestion, InvalidState, NotAllowed
from stopsfirst.pins import bad_between, least_pins, pin_needs, pinned
from stopsfirst.rulebooks import Rulebook
from tests import helper
from tests.helper import Weird, join, lot, lots, meet, minus, part, raised

TORN = Rulebook(lot("ab"), [("table", lot("ab"), lots("a b"))])
CLASH = Rulebook(lot("abc"), [("imply", lot("ab"), ())])
ODD_STATES = helper.ODD_VALUES + (["a"], lot("az"), Weird(), (Weird(),))


def questions(seed, many):
    chance = random.Random(seed)
    for services, rules in helper.random_books(seed, many):
        states = helper.allowed(services, rules)
        for count in (1, 1, 2, 3, 4) if states else ():
            yield Rulebook(services, rules), states, [chance.choice(states) for _ in range(count)]


def lies_within(one, other):
    return one != other and part(one[0], other[0]) and part(one[1], other[1])


def least(pairs):
    return tuple(sorted({pair for pair in pairs if not any(lies_within(other, pair) for other in pairs)}))


class PinnedTest(unittest.TestCase):
    def test_by_words(self):
        for services, rules in helper.random_books(941, 20):
            book = Rulebook(services, rules)
            for on, off in itertools.product(helper.all_lots(services), repeat=2):
                if meet(on, off):
                    self.assertEqual(raised(pinned, book, on, off), (InvalidQuestion, 0))
                    continue
                further = [("imply", (), (x,)) for x in on] + [("imply", (x,), ()) for x in off]
                self.assertEqual(pinned(book, on, off), Rulebook(services, list(book.rules) + further))

    def test_by_hand(self):
        self.assertEqual(pinned(off=lot("b"), on=lot("ac"), book=CLASH).states(), lots("ac"))
        self.assertEqual(pinned(CLASH, (), ()), CLASH)

    def test_errors(self):
        for odd in ODD_STATES:
            self.assertEqual(raised(pinned, CLASH, odd, odd), (InvalidState, 0), repr(odd))
            self.assertEqual(raised(pinned, CLASH, lot("a"), odd), (InvalidState, 1), repr(odd))
        self.assertEqual(raised(pinned, CLASH, lot("ab"), lot("bc")), (InvalidQuestion, 0))


class NeedTest(unittest.TestCase):
    def test_by_words(self):
        found = set()
        for book, states, keep in questions(942, 60):
            can_on = [name for name in book.services if all(name in state for state in keep)]
            can_off = [name for name in book.services if not any(name in state for state in keep)]
            needs = {(a, b): (minus(can_on, meet(a, b)), meet(can_off, join(a, b)))
                     for a, b in helper.bad_pairs(states)}
            told = pin_needs(book, keep)
            self.assertEqual(told, least(set(needs.values())))
            empty = [pair for pair in sorted(needs) if needs[pair] == ((), ())]
            self.assertEqual(bad_between(book, keep), empty[0] if empty else None)
            good = []
            for on, off in itertools.product(helper.all_lots(can_on), helper.all_lots(can_off)):
                left = [s for s in states if part(on, s) and not meet(off, s)]
                is_good = helper.is_bendable(left)
                self.assertIs(is_good, all(meet(on, one) or meet(off, other) for one, other in told))
                if is_good:
                    good.append((on, off))
                    self.assertIs(is_bendable(pinned(book, on, off)), True)
            self.assertEqual(least_pins(book, keep), least(good))
            self.assertIs(empty == [], good != [])
            found.add((len(told) > 1, len(least(good))))
        self.assertLessEqual({(False, 0), (False, 1), (False, 2), (True, 1)}, found)

    def test_by_hand(self):
        self.assertEqual(pin_needs(keep=lots("a"), book=TORN), ((lot("a"), lot("b")),))
        self.assertEqual(least_pins(keep=lots("a"), book=TORN), (((), lot("b")), (lot("a"), ())))
        self.assertIsNone(bad_between(keep=lots("a"), book=TORN))
        self.assertEqual(pin_needs(TORN, lots("a b")), (((), ()),))
        self.assertEqual(least_pins(TORN, lots("a b")), ())
        self.assertEqual(bad_between(TORN, lots("a b")), (lot("a"), lot("b")))
        self.assertEqual(pin_needs(CLASH, [()]), ())
        self.assertEqual(least_pins(CLASH, [()] * 4), (((), ()),))
        self.assertIsNone(bad_between(CLASH, ((),)))

    def test_errors(self):
        for ask in (pin_needs, least_pins, bad_between):
            for odd in (None, True, 0, "ab", {}, {()}, [], (), [()] * 5, Weird(), object(), iter([()])):
                self.assertEqual(raised(ask, CLASH, odd), (InvalidQuestion, 1), repr(odd))
            for odd in ODD_STATES:
                self.assertEqual(raised(ask, CLASH, [lot("ab"), odd]), (InvalidState, 1), repr(odd))
            self.assertEqual(raised(ask, CLASH, (lot("a"), lot("ab"))), (NotAllowed, 1))
            self.assertIsNone(raised(ask, CLASH, lots("a a b b")))


if __name__ == "__main__":
    unittest.main()
