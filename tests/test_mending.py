"""[89] to [91]: mends, remedies, and the least mends that suit and work."""

import itertools
import random
import unittest

from stopsfirst.errors import InvalidQuestion, InvalidState, NotAllowed, Refused
from stopsfirst.mending import fewest_mend, least_mends, mended, remedies
from stopsfirst.rulebooks import Rulebook
from tests import helper
from tests.helper import Weird, join, lot, lots, meet, part, raised

TORN = Rulebook(lot("ab"), [("table", lot("ab"), lots("a b"))])
CLASH = Rulebook(lot("abc"), [("imply", lot("ab"), ())])
SORTS = ("add", "bar", "both")
BOOKS = helper.random_books(891, 40, "abc")
ODD_STATES = helper.ODD_VALUES + (["a"], lot("az"), Weird(), (Weird(),))


def table_books(seed, many, services="abc", shares=(0.3, 0.5, 0.7)):
    """Rulebooks that allow random states; most of them are not bendable."""
    chance = random.Random(seed)
    found = []
    while len(found) < many:
        share = chance.choice(shares)
        states = [state for state in helper.all_lots(services) if chance.random() < share]
        if states and not helper.is_bendable(states):
            found.append((tuple(services), states))
    return found


def is_working(states, mend):
    return helper.is_bendable(sorted((set(states) | set(mend[0])) - set(mend[1])))


def all_mends(states, services, sort, keep, most):
    """All mends that suit, by their size."""
    added = [one for one in helper.all_lots(services) if one not in states] if sort != "bar" else []
    barred = [one for one in states if one not in keep] if sort != "add" else []
    for size in range(most + 1):
        for count in range(size + 1):
            for one in itertools.combinations(added, count):
                for other in itertools.combinations(barred, size - count):
                    yield (one, other)


def is_within(one, other):
    return one != other and all(set(a) <= set(b) for a, b in zip(one, other))


def remedies_by_words(states, settled, a, b, sort, keep):
    """What [90] says, for states as they are with what is settled."""
    if helper.middles(states, a, b):
        return []
    found = []
    if sort != "add":
        found = [((), (end,)) for end in (a, b) if end not in keep and end not in settled]
    if sort != "bar":
        lacking = []
        for x in helper.all_lots(sorted(set("abcde") & set(join(a, b)))):
            if part(meet(a, b), x) and part(x, a):
                missing = tuple(sorted({one for one in (x, join(x, b)) if one not in states}))
                if not any(one in settled for one in missing):
                    lacking.append(missing)
        least = {one for one in lacking if not any(set(other) < set(one) for other in lacking)}
        found += [(one, ()) for one in sorted(least)]
    return found


def questions(seed, books, many):
    chance = random.Random(seed)
    for services, states in books:
        for _ in range(many):
            sort = chance.choice(SORTS)
            keep = [chance.choice(states) for _ in range(chance.choice((0, 0, 1, 2, 3)))]
            most = chance.randrange(9 if sort == "bar" else 4)
            yield Rulebook(services, helper.table_of(services, states)), states, sort, keep, most


class MendedTest(unittest.TestCase):
    def test_by_words(self):
        chance = random.Random(892)
        for services, rules in BOOKS:
            states = helper.allowed(services, rules)
            book = Rulebook(services, rules)
            added = tuple(one for one in helper.all_lots(services) if one not in states and chance.random() < 0.5)
            barred = tuple(one for one in states if chance.random() < 0.5)
            told = mended(book, (added, barred))
            right = sorted((set(states) | set(added)) - set(barred))
            self.assertEqual(told, Rulebook(services, helper.table_of(services, right)))
            self.assertEqual(told.states(), tuple(right))

    def test_by_hand(self):
        self.assertEqual(mended(mend=((), ()), book=TORN), TORN)
        self.assertEqual(mended(TORN, ((), lots("a b"))), Rulebook(lot("ab"), [("table", lot("ab"), ())]))
        self.assertEqual(mended(TORN, (lots("- ab"), ())).states(), lots("- a ab b"))
        self.assertEqual(mended(CLASH, ((), ())).rules, (("table", lot("abc"), lots("- a ac b bc c")),))

    def test_what_is_no_mend(self):
        for odd in helper.ODD_VALUES + (Weird(), (Weird(),), (), ((),), ((), (), ()), [(), ()], ((), []), ([], ()),
                                        ((), None), (None, ()), ((), Weird()), ((), "a"), (lots("b a"), ()),
                                        ((), lots("b b")), ((), (lot("a"), 5, ())), (lots("z a"), ()), ((), lots("z b ab"))):
            self.assertEqual(raised(mended, TORN, odd), (InvalidQuestion, 0), repr(odd))

    def test_other_things_are_passed_by(self):
        for odd in ODD_STATES:
            if type(odd) is not tuple or not odd or odd == ("a", "b"):
                self.assertEqual(raised(mended, TORN, ((), (lot("a"), odd))), (InvalidState, 1), repr(odd))
                self.assertEqual(raised(mended, TORN, ((odd, ()), (lot("a"), odd))), (InvalidState, 0), repr(odd))
                self.assertEqual(raised(mended, TORN, (((), odd, ("ab",)), ())), (InvalidState, 1), repr(odd))
        self.assertEqual(raised(mended, TORN, (lots("a z"), ())), (InvalidState, 1))
        self.assertEqual(raised(mended, TORN, (lots("a"), lots("az b"))), (InvalidState, 1))
        self.assertEqual(raised(mended, TORN, (((), ("b", "a"), ()), ())), (InvalidQuestion, 0))

    def test_what_may_be_added_and_barred(self):
        self.assertEqual(raised(mended, TORN, (lots("- a b"), lots("ab"))), (Refused, 1))
        self.assertEqual(raised(mended, TORN, (lots("- ab"), lots("- b"))), (NotAllowed, 2))
        self.assertEqual(raised(mended, TORN, ((), lots("a ab b"))), (NotAllowed, 1))
        self.assertEqual(raised(mended, TORN, (lots("b"), lots("a z"))), (InvalidState, 2))
        self.assertEqual(raised(mended, TORN, (lots("-"), lots("-"))), (NotAllowed, 1))


class RemedyTest(unittest.TestCase):
    def test_by_words(self):
        found = set()
        for book, states, sort, keep, _ in questions(893, table_books(894, 40), 3):
            for a, b in itertools.product(states, repeat=2):
                told = remedies(book, a, b, sort, keep)
                self.assertEqual(told, tuple(remedies_by_words(states, [], a, b, sort, keep)))
                found.add((sort, len(told)))
                self.assertTrue(all(mended(book, mend) for mend in told))
        self.assertLessEqual({("add", 2), ("add", 4), ("bar", 0), ("bar", 1), ("bar", 2), ("both", 4)}, found)

    def test_four_services(self):
        for book, states, sort, keep, _ in questions(895, table_books(896, 8, "abcd"), 3):
            for a, b in itertools.product(states, repeat=2):
                told = remedies(book, a, b, sort, keep)
                self.assertEqual(told, tuple(remedies_by_words(states, [], a, b, sort, keep)))

    def test_by_hand(self):
        a, b = lot("a"), lot("b")
        bars = (((), (a,)), ((), (b,)))
        adds = ((((),), ()), ((lot("ab"),), ()))
        self.assertEqual(remedies(keep=[], sort="both", goal=b, start=a, book=TORN), bars + adds)
        self.assertEqual(remedies(TORN, a, b, "bar", ()), bars)
        self.assertEqual(remedies(TORN, a, b, "add", ()), adds)
        self.assertEqual(remedies(TORN, a, b, "both", (a, a)), bars[1:] + adds)
        self.assertEqual(remedies(TORN, a, b, "bar", [a, b]), ())
        self.assertEqual(remedies(TORN, a, a, "both", []), ())
        far = Rulebook(lot("abcd"), [("table", lot("abcd"), lots("ab cd"))])
        self.assertEqual(remedies(far, lot("ab"), lot("cd"), "add", []),
                         (((lot("-"),), ()), ((lot("a"), lot("acd")), ()), ((lot("abcd"),), ()),
                          ((lot("b"), lot("bcd")), ())))

    def test_errors(self):
        for odd in ODD_STATES:
            self.assertEqual(raised(remedies, CLASH, odd, odd, 0, 0), (InvalidState, 0), repr(odd))
            self.assertEqual(raised(remedies, CLASH, lot("ab"), odd, 0, 0), (InvalidState, 1), repr(odd))
            self.assertEqual(raised(remedies, CLASH, (), (), "add", [(), odd]), (InvalidState, 3), repr(odd))
        self.assertEqual(raised(remedies, CLASH, lot("ab"), lot("ab"), 0, 0), (NotAllowed, 0))
        self.assertEqual(raised(remedies, CLASH, (), lot("ab"), 0, 0), (NotAllowed, 1))
        check_sorts(self, lambda sort, keep: remedies(CLASH, (), (), sort, keep))
        self.assertEqual(raised(remedies, CLASH, (), (), "bar", [lot("ab"), lot("az")]), (InvalidState, 3))
        self.assertEqual(raised(remedies, CLASH, (), (), "bar", [(), lot("ab")]), (NotAllowed, 3))


def check_sorts(test, ask):
    for odd in helper.ODD_VALUES + ("Add", "adds", b"add", ("add",), Weird()):
        test.assertEqual(raised(ask, odd, 0), (InvalidQuestion, 0), repr(odd))
    for odd in (None, True, 0, "ab", {}, {()}, [()] * 5, Weird(), object(), iter(())):
        test.assertEqual(raised(ask, "both", odd), (InvalidQuestion, 1), repr(odd))
    test.assertIsNone(raised(ask, "both", [()] * 4))


def check_wishes(test, ask):
    """The errors of a wish, in their order."""
    check_sorts(test, lambda sort, keep: ask(CLASH, sort, keep, 0))
    for odd in ODD_STATES:
        test.assertEqual(raised(ask, CLASH, "bar", [lot("ab"), odd], 9), (InvalidState, 1), repr(odd))
    test.assertEqual(raised(ask, CLASH, "bar", [lot("a"), lot("ab")], 9), (NotAllowed, 1))
    for odd in (None, True, False, -1, 9, 1.0, "1", (1,), Weird(), object()):
        for sort in SORTS:
            test.assertEqual(raised(ask, CLASH, sort, (), odd), (InvalidQuestion, 2), repr(odd))
    test.assertIsNone(raised(ask, CLASH, "bar", (), 8))
    for sort in ("add", "both"):
        test.assertIsNone(raised(ask, CLASH, sort, (), 3))
        test.assertEqual(raised(ask, CLASH, sort, (), 4), (InvalidQuestion, 2))


class SearchTest(unittest.TestCase):
    def check(self, book, states, sort, keep, most):
        mends = [mend for mend in all_mends(states, book.services, sort, keep, most) if is_working(states, mend)]
        sizes = [len(mend[0]) + len(mend[1]) for mend in mends]
        first = min(mend for mend, size in zip(mends, sizes) if size == min(sizes)) if mends else None
        self.assertEqual(fewest_mend(book, sort, keep, most), first)
        least = [mend for mend in mends if not any(is_within(other, mend) for other in mends)]
        self.assertEqual(least_mends(book, sort, keep, most), tuple(sorted(least)))
        return len(least)

    def test_three_services(self):
        found = set()
        for book, states, sort, keep, most in questions(897, table_books(898, 40), 3):
            found.add((sort, min(self.check(book, states, sort, keep, most), 3)))
        self.assertLessEqual(set(itertools.product(SORTS, (0, 1, 2))), found)
        self.assertIn(("both", 3), found)

    def test_four_services(self):
        for services, states in table_books(899, 5, "abcd", (0.3, 0.7)):
            book = Rulebook(services, helper.table_of(services, states))
            self.check(book, states, "bar", [states[0], states[0]], 3)
            self.check(book, states, "both", [], 2)
            self.check(book, states, "add", [], 3)

    def test_bendable_rulebooks(self):
        for services, rules in helper.bendable_books(900, 10, "abc"):
            for sort in SORTS:
                self.assertEqual(fewest_mend(Rulebook(services, rules), sort, (), 0), ((), ()))
                self.assertEqual(least_mends(Rulebook(services, rules), sort, (), 3), (((), ()),))

    def test_by_hand(self):
        self.assertEqual(fewest_mend(most=1, keep=(), sort="both", book=TORN), ((), (lot("a"),)))
        self.assertEqual(least_mends(most=1, keep=(), sort="both", book=TORN),
                         (((), (lot("a"),)), ((), (lot("b"),)), (((),), ()), ((lot("ab"),), ())))
        self.assertIsNone(fewest_mend(TORN, "both", [], 0))
        self.assertEqual(least_mends(TORN, "both", [], 0), ())
        self.assertIsNone(fewest_mend(TORN, "bar", lots("a b"), 8))
        self.assertEqual(least_mends(TORN, "bar", lots("a b"), 8), ())

    def test_a_mend_that_leaves_no_state_works(self):
        for services, states in table_books(901, 10):
            if len(states) <= 8:
                self.assertTrue(is_working(states, ((), tuple(states))))
                self.assertIsNotNone(fewest_mend(Rulebook(services, helper.table_of(services, states)), "bar", (), 8))

    def test_errors(self):
        check_wishes(self, fewest_mend)
        check_wishes(self, least_mends)


if __name__ == "__main__":
    unittest.main()
