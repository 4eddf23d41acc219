"""[35] and [36]: islands of states that reach each other."""

import random
import unittest

from stopsfirst.errors import InvalidBatches, InvalidPlan, InvalidQuestion, InvalidState, Refused
from stopsfirst.islands import centers, descent_kind, direct_pairs, final_changes, islands
from stopsfirst.rulebooks import Rulebook
from stopsfirst.words import misfit
from tests import helper
from tests.helper import Weird, lot, lots, part, raised

FREE = Rulebook(lot("ab"), [])
TORN = Rulebook(lot("ab"), [("table", lot("ab"), lots("a b"))])
NONE = Rulebook(lot("ab"), [("imply", (), ())])
CLASH = Rulebook(lot("abc"), [("imply", lot("ab"), ())])
BOOKS = [told for told in helper.random_books(341, 40) if helper.allowed(*told)]
BENDABLE = helper.bendable_books(342, 60)


class Words:
    """What [35] says, word by word."""

    def __init__(self, states, batches):
        self.reach = {state: set(helper.reached(states, state, batches)) for state in states}
        self.islands = []
        for state in states:
            island = tuple(other for other in states if other in self.reach[state] and state in self.reach[other])
            if island not in self.islands:
                self.islands.append(island)

    def above(self, one, other):
        return one != other and self.islands[other][0] in self.reach[self.islands[one][0]]

    def pairs(self):
        every = range(len(self.islands))
        return tuple((i, j) for i in every for j in every if self.above(i, j)
                     and not any(self.above(i, k) and self.above(k, j) for k in every))


def questions(books, seed, many):
    for services, rules in books:
        states = helper.allowed(services, rules)
        for batches in helper.random_batches(seed, services, many):
            yield Rulebook(services, rules), states, batches


class IslandTest(unittest.TestCase):
    def test_by_words(self):
        many = set()
        for book, states, batches in questions(BOOKS, 343, 8):
            words = Words(states, batches)
            told = islands(book, batches)
            self.assertEqual(told, tuple(words.islands))
            self.assertEqual(told, tuple(sorted(told)))
            self.assertEqual(direct_pairs(book, batches), words.pairs())
            many.add(min(len(told), 5))
        self.assertEqual(many, {1, 2, 3, 4, 5})

    def test_by_hand(self):
        self.assertEqual(islands(FREE, None), (lots("- a ab b"),))
        self.assertEqual(direct_pairs(FREE, None), ())
        for batches in ((), [()]):
            self.assertEqual(islands(FREE, batches), tuple((state,) for state in lots("- a ab b")))
            self.assertEqual(direct_pairs(FREE, batches), ((1, 0), (2, 1), (2, 3), (3, 0)))
        self.assertEqual(islands(FREE, [lot("a")]), (lots("- a"), lots("ab b")))
        self.assertEqual(direct_pairs(book=FREE, batches=[lot("a")]), ((1, 0),))
        self.assertEqual(islands(TORN, [lot("a")]), (lots("a"), lots("b")))
        self.assertEqual(direct_pairs(TORN, [lot("a")]), ((1, 0),))
        self.assertEqual(islands(batches=None, book=TORN), (lots("a b"),))
        self.assertEqual(islands(NONE, None), ())
        self.assertEqual(direct_pairs(NONE, None), ())

    def test_errors(self):
        for ask in (islands, direct_pairs, lambda book, told: descent_kind(book, told, None, None),
                    lambda book, told: centers(book, told, ()), lambda book, told: final_changes(book, [()], told)):
            for odd in (True, 0, "ab", {()}, Weird()):
                self.assertEqual(raised(ask, FREE, odd), (InvalidBatches, 0))
            for odd in (lot("c"), ["a"], "a", None, lot("ba"), Weird()):
                self.assertEqual(raised(ask, FREE, [(), lot("a"), odd]), (InvalidBatches, 2))


class DescentTest(unittest.TestCase):
    def test_by_words(self):
        found = set()
        for book, states, batches in questions(BOOKS, 344, 6):
            words = Words(states, batches)
            for one, upper in enumerate(words.islands):
                for other, lower in enumerate(words.islands):
                    if not words.above(one, other):
                        self.assertEqual(raised(descent_kind, book, batches, one, other), (Refused, 0))
                        continue
                    told = (all(any(part(low, high) for low in lower) for high in upper),
                            all(any(part(low, high) for high in upper) for low in lower))
                    self.assertEqual(descent_kind(book, batches, one, other), told)
                    found.add(told)
        self.assertEqual(len(found), 4)

    def test_direct_pairs_in_bendable_rulebooks(self):
        seen = 0
        for book, _, batches in questions(BENDABLE, 345, 8):
            for pair in direct_pairs(book, batches):
                self.assertIn(True, descent_kind(book, batches, *pair))
                seen += 1
        self.assertGreater(seen, 100)

    def test_by_hand(self):
        self.assertEqual(descent_kind(TORN, [lot("a")], 1, 0), (False, False))
        self.assertEqual(descent_kind(second=0, first=2, batches=[], book=FREE), (True, True))

    def test_errors(self):
        for odd in helper.ODD_VALUES + (4, -1, Weird()):
            if odd not in (0, 1) or isinstance(odd, bool) or isinstance(odd, Weird):
                self.assertEqual(raised(descent_kind, FREE, [], odd, odd), (InvalidQuestion, 0), repr(odd))
                self.assertEqual(raised(descent_kind, FREE, [], 0, odd), (InvalidQuestion, 1), repr(odd))
        self.assertEqual(raised(descent_kind, FREE, [], 0, 0), (Refused, 0))
        self.assertEqual(raised(descent_kind, FREE, [], 0, 1), (Refused, 0))
        self.assertEqual(raised(descent_kind, NONE, [], 0, 0), (InvalidQuestion, 0))


class FinalTest(unittest.TestCase):
    def test_by_words(self):
        chance = random.Random(346)
        found = set()
        for book, states, batches in questions(BOOKS, 347, 6):
            words = Words(states, batches)
            for start in states:
                plan = [start]
                for _ in range(chance.randrange(6)):
                    fitting = [b for b in states if helper.fits(batches, helper.minus(b, plan[-1]))]
                    plan.append(chance.choice(fitting))
                told = tuple(at for at in range(len(plan) - 1) if plan[at] not in words.reach[plan[at + 1]])
                self.assertEqual(final_changes(book, plan, batches), told)
                found.add(len(told))
        self.assertLessEqual({0, 1, 2, 3}, found)

    def test_by_hand(self):
        self.assertEqual(final_changes(FREE, lots("ab a a -"), []), (0, 2))
        self.assertEqual(final_changes(batches=[], plan=lots("ab"), book=FREE), ())
        self.assertEqual(final_changes(FREE, list(lots("ab - ab")), None), ())

    def test_errors(self):
        self.assertEqual(raised(final_changes, FREE, [(), lot("c")], 5), (InvalidPlan, 1))
        self.assertEqual(raised(final_changes, FREE, [], 5), (InvalidPlan, 0))
        self.assertEqual(raised(final_changes, FREE, None, 5), (InvalidPlan, 0))
        self.assertEqual(raised(final_changes, TORN, lots("a ab"), 5), (InvalidPlan, 1))
        self.assertEqual(raised(final_changes, FREE, lots("- a ab"), [5]), (InvalidBatches, 0))
        self.assertEqual(raised(final_changes, FREE, lots("- a - ab"), [lot("a")]), (Refused, 2))
        self.assertEqual(raised(final_changes, FREE, lots("- a"), []), (Refused, 0))


class CenterTest(unittest.TestCase):
    def by_words(self, island, told):
        in_all = set.intersection(*[set(state) for state in island])
        in_some = set.union(*[set(state) for state in island])
        return tuple(sorted(in_all | (in_some & set(told))))

    def test_by_words(self):
        for book, states, batches in questions(BOOKS, 348, 5):
            for told in helper.all_lots(book.services)[::3]:
                right = tuple(self.by_words(island, told) for island in Words(states, batches).islands)
                self.assertEqual(centers(book, batches, told), right)

    def test_where_the_lot_leads(self):
        led = 0
        for book, states, batches in questions(BENDABLE, 349, 6):
            words = Words(states, batches)
            for told in helper.all_lots(book.services):
                if misfit(book, told) is not None:
                    continue
                led += 1
                found = centers(book, batches, told)
                for one, center in enumerate(found):
                    self.assertIn(center, words.islands[one])
                    for other, lower in enumerate(found):
                        self.assertIs(words.above(one, other), helper.proper(lower, center))
            for plan in helper.random_plans(350, states, 5):
                if all(helper.fits(batches, helper.minus(b, a)) for a, b in zip(plan, plan[1:])):
                    self.assertLessEqual(len(final_changes(book, plan, batches)), 4)
        self.assertGreater(led, 100)

    def test_by_hand(self):
        self.assertEqual(centers(CLASH, [lot("c")], ()), lots("- a b"))
        self.assertEqual(centers(CLASH, [lot("c")], lot("c")), lots("c ac bc"))
        self.assertEqual(centers(lot=lot("ab"), batches=None, book=TORN), lots("ab"))
        self.assertEqual(centers(NONE, None, lot("a")), ())

    def test_errors(self):
        for odd in helper.ODD_VALUES + (["a"], lot("abc"), Weird()):
            self.assertEqual(raised(centers, FREE, 5, odd), (InvalidState, 0), repr(odd))
        self.assertEqual(raised(centers, FREE, 5, lot("a")), (InvalidBatches, 0))


if __name__ == "__main__":
    unittest.main()
