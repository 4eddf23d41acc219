"""[92]: trees, which show that no mend suits and works."""

import random
import unittest

from stopsfirst.mending import fewest_mend
from stopsfirst.rulebooks import Rulebook
from stopsfirst.trees import mend_tree, tree_holds
from tests import helper
from tests.helper import Weird, lot, lots
from tests.test_mending import TORN, check_wishes, questions, remedies_by_words, table_books


def is_tree(states, sort, keep, most, value, settled=()):
    """What [92] says, for a value that is made of tuples; `states` are those with what is settled."""
    if type(value) is not tuple or len(value) != 3 or type(value[2]) is not tuple:
        return False
    a, b, arms = value
    if a not in states or b not in states or helper.middles(states, a, b):
        return False
    found = remedies_by_words(states, settled, a, b, sort, keep)
    if len(found) != len(arms):
        return False
    for (added, barred), arm in zip(found, arms):
        further = settled + added + barred
        if len(further) > most:
            if arm != ():
                return False
        elif not is_tree(sorted((set(states) | set(added)) - set(barred)), sort, keep, most, arm, further):
            return False
    return True


def random_tree(chance, states, sort, keep, most, settled=()):
    """A tree with any bad pairs, where no mend suits and works."""
    a, b = chance.choice(helper.bad_pairs(states))
    arms = []
    for added, barred in remedies_by_words(states, settled, a, b, sort, keep):
        further = settled + added + barred
        turned = sorted((set(states) | set(added)) - set(barred))
        arms.append(() if len(further) > most else random_tree(chance, turned, sort, keep, most, further))
    return (a, b, tuple(arms))


def count_settled(states, sort, keep, tree, settled=()):
    """In how many places of a tree something is no remedy only because it is settled already."""
    if tree == ():
        return 0
    a, b, arms = tree
    found = remedies_by_words(states, settled, a, b, sort, keep)
    count = found != remedies_by_words(states, (), a, b, sort, keep)
    for (added, barred), arm in zip(found, arms):
        further = sorted((set(states) | set(added)) - set(barred))
        count += count_settled(further, sort, keep, arm, settled + added + barred)
    return count


def places(value, at=()):
    """The places of all things in a tree, as ways down from the root."""
    yield at
    if isinstance(value, tuple):
        for number, thing in enumerate(value):
            yield from places(thing, at + (number,))


def spoilt(value, place, thing):
    if not place:
        return thing
    at = place[0]
    return value[:at] + (spoilt(value[at], place[1:], thing),) + value[at + 1:]


def thing_at(value, place):
    for at in place:
        value = value[at]
    return value


SETTLED = [(lot("abcd"), list(lots("a ab ad bc bcd cd"))), (lot("abcd"), list(lots("ab ac ad bc bd c")))]


class TreeTest(unittest.TestCase):
    def test_by_words(self):
        found = set()
        for book, states, sort, keep, most in questions(921, table_books(922, 60), 4):
            tree = mend_tree(book, sort, keep, most)
            self.assertIs(tree is None, fewest_mend(book, sort, keep, most) is not None)
            if tree is not None:
                self.assertTrue(is_tree(states, sort, keep, most, tree))
                self.assertIs(tree_holds(book, sort, keep, most, tree), True)
                found.add((sort, most))
        self.assertLessEqual({("add", 0), ("bar", 0), ("bar", 1), ("bar", 4), ("both", 0), ("both", 1)}, found)

    def test_deeper_trees(self):
        chance = random.Random(928)
        depths = set()
        settled = 0
        for services, states in table_books(923, 30, "abcd", (0.3, 0.5)) + SETTLED:
            book = Rulebook(services, helper.table_of(services, states))
            for sort, most in (("bar", 3), ("add", 2), ("both", 2)):
                tree = mend_tree(book, sort, [states[0]], most)
                if tree is not None:
                    self.assertTrue(is_tree(states, sort, [states[0]], most, tree))
                    self.assertIs(tree_holds(book, sort, [states[0]], most, tree), True)
                    depths.add((sort, max(len(place) for place in places(tree)) // 2))
                    settled += count_settled(states, sort, [states[0]], tree)
                    for _ in range(3):
                        other = random_tree(chance, states, sort, [states[0]], most)
                        self.assertIs(tree_holds(book, sort, [states[0]], most, other), True)
                        settled += count_settled(states, sort, [states[0]], other)
        self.assertLessEqual({("bar", 4), ("add", 3), ("both", 3)}, depths)
        self.assertGreater(settled, 5)

    def test_by_hand(self):
        a, b = lot("a"), lot("b")
        self.assertEqual(mend_tree(most=8, keep=lots("a b"), sort="bar", book=TORN)[2], ())
        self.assertIs(tree_holds(TORN, "bar", lots("a b"), 8, (a, b, ())), True)
        self.assertIs(tree_holds(value=(b, a, ()), most=8, keep=lots("a b"), sort="bar", book=TORN), True)
        self.assertIs(tree_holds(TORN, "both", (), 0, (a, b, ((), (), (), ()))), True)
        self.assertIs(tree_holds(TORN, "both", (), 1, (a, b, ((), (), (), ()))), False)
        self.assertIsNone(mend_tree(TORN, "both", (), 1))
        book = Rulebook(lot("ab"), [])
        self.assertIsNone(mend_tree(book, "both", (), 0))
        self.assertIs(tree_holds(book, "both", (), 0, ((), (), ())), False)

    def test_spoilt_values(self):
        chance = random.Random(925)
        checked = 0
        for book, states, sort, keep, most in questions(926, table_books(927, 12), 3):
            good = mend_tree(book, sort, keep, most)
            if good is None:
                continue
            every = list(places(good))
            for place in every if len(every) < 60 else chance.sample(every, 60):
                here = thing_at(good, place)
                for odd in (None, (), ((),), ((), ()), lot("a"), lot("z"), good, "a", True, list(lots("a b")), Weird(),
                            lots("a b ab"), list(here) if isinstance(here, tuple) else [here], here + here):
                    value = spoilt(good, place, odd)
                    if not isinstance(odd, (Weird, list)):
                        self.assertIs(tree_holds(book, sort, keep, most, value),
                                      is_tree(states, sort, keep, most, value), repr(odd))
                    else:
                        self.assertIs(tree_holds(book, sort, keep, most, value), False, repr(odd))
                    checked += 1
        self.assertGreater(checked, 500)

    def test_other_values(self):
        for odd in helper.ODD_VALUES + (Weird(), (Weird(),), (Weird(), Weird(), Weird()), (lot("a"), lot("b"), Weird()),
                                        (lot("a"), lot("b"), []), (lot("a"), lot("a"), ()), (lot("a"), (), ()),
                                        (["a"], lot("b"), ()), [lot("a"), lot("b"), ()], (lot("a"), lot("b"), (), ())):
            self.assertIs(tree_holds(TORN, "bar", lots("a b"), 3, odd), False, repr(odd))

    def test_errors(self):
        check_wishes(self, mend_tree)
        check_wishes(self, lambda *wish: tree_holds(*wish, None))


if __name__ == "__main__":
    unittest.main()
