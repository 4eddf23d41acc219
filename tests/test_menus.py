"""[93]: rules struck and put in, and trees which show that none of these make a rulebook bendable."""

import itertools
import random
import unittest

from stopsfirst.errors import InvalidQuestion, InvalidRule
from stopsfirst.menus import fewest_rules, rules_mended, rules_tree, rules_tree_holds
from stopsfirst.rulebooks import Rulebook
from tests import helper
from tests.helper import Weird, join, lot, lots, meet, part, raised
from tests.test_trees import places, spoilt, thing_at

XOR = ("table", lot("ab"), lots("a b"))
TORN = Rulebook(lot("ab"), [XOR])
NEVER = ("imply", ("a",), ())


def asks(seed, many, services="abc"):
    """Rulebooks that are seldom bendable, with menus, as kept rules; some rules come twice, or are in the book."""
    chance = random.Random(seed)
    every = helper.all_lots(services)
    while many:
        rules = []
        for _ in range(chance.randrange(1, 4)):
            names = tuple(sorted(chance.sample(services, chance.choice((2, 3, 3)))))
            told = [one for one in helper.all_lots(names) if chance.random() < 0.6]
            rules += [("table", names, tuple(told))] * chance.choice((1, 1, 2))
        states = helper.allowed(services, rules)
        if not states or helper.is_bendable(states) and chance.random() < 0.9:
            continue
        menu = [chance.choice(rules)] if chance.random() < 0.3 else []
        for _ in range(chance.randrange(4)):
            told = ("imply", chance.choice(every)[:2], chance.choice(every)[:2])
            menu += [told] * chance.choice((1, 1, 1, 2))
        many -= 1
        yield Rulebook(tuple(services), rules), rules, menu[:6], chance.choice((0, 1, 1, 2, 3))


def deep_asks():
    """Rulebooks in which each forbidden state is forbidden by a rule of its own, so that a few turns do not help."""
    chance = random.Random(938)
    every = helper.all_lots("abcd")
    for at in range(16):
        states = [one for one in every if chance.random() < 0.4]
        rules = [("table", lot("abcd"), tuple(other for other in every if other != one))
                 for one in every if one not in states]
        menu = [[], [("imply", (), lot("abcd"))], [NEVER, ("imply", lot("abcd"), ())]][at % 3]
        yield Rulebook(lot("abcd"), rules), rules, menu, 1 + at % 2


def rules_by_words(rules, menu, mend):
    struck, put = mend
    return [rule for at, rule in enumerate(rules) if at not in struck] + [menu[at] for at in put]


def states_behind(services, rules, menu, mend):
    return helper.allowed(services, rules_by_words(rules, menu, mend))


def remedies_by_words(services, rules, menu, struck, put, a, b):
    """The lots that are struck, and those that are put in, one remedy after the other."""
    def forbids(rule, *states):
        return any(not helper.rule_allows(rule, state) for state in states)
    found = [((), (at,)) for at in range(len(menu)) if at not in put and forbids(menu[at], a, b)]
    lacking = set()
    for x in helper.all_lots(services):
        if part(meet(a, b), x) and part(x, a) and not any(forbids(menu[at], x, join(x, b)) for at in put):
            lacking.add(tuple(at for at in range(len(rules)) if at not in struck and forbids(rules[at], x, join(x, b))))
    return found + [(one, ()) for one in sorted(lacking) if not any(set(other) < set(one) for other in lacking)]


def is_tree(services, rules, menu, most, value, struck=(), put=()):
    if type(value) is not tuple or len(value) != 3 or type(value[2]) is not tuple:
        return False
    a, b, arms = value
    states = states_behind(services, rules, menu, (struck, sorted(put)))
    if a not in states or b not in states or helper.middles(states, a, b):
        return False
    found = remedies_by_words(services, rules, menu, struck, put, a, b)
    if len(found) != len(arms):
        return False
    for (one, other), arm in zip(found, arms):
        further = (struck + one, put + other)
        if len(further[0]) + len(further[1]) > most:
            if arm != ():
                return False
        elif not is_tree(services, rules, menu, most, arm, *further):
            return False
    return True


def random_tree(chance, services, rules, menu, most, struck=(), put=()):
    """A tree with any bad pairs, where no rule mend works."""
    a, b = chance.choice(helper.bad_pairs(states_behind(services, rules, menu, (struck, sorted(put)))))
    arms = []
    for one, other in remedies_by_words(services, rules, menu, struck, put, a, b):
        further = (struck + one, put + other)
        is_far = len(further[0]) + len(further[1]) > most
        arms.append(() if is_far else random_tree(chance, services, rules, menu, most, *further))
    return (a, b, tuple(arms))


def all_mends(rules, menu, size):
    for count in range(size + 1):
        for one in itertools.combinations(range(len(rules)), count):
            for other in itertools.combinations(range(len(menu)), size - count):
                yield (one, other)


class MendedTest(unittest.TestCase):
    def test_by_words(self):
        chance = random.Random(931)
        for book, rules, menu, _ in asks(932, 40):
            struck = tuple(at for at in range(len(rules)) if chance.random() < 0.4)
            put = tuple(at for at in range(len(menu)) if chance.random() < 0.5)
            told = rules_mended(book, menu, (struck, put))
            self.assertEqual(told, Rulebook(book.services, rules_by_words(rules, menu, (struck, put))))

    def test_by_hand(self):
        self.assertEqual(rules_mended(mend=((), ()), menu=[], book=TORN), TORN)
        self.assertEqual(rules_mended(TORN, [["imply", ["a"], []], XOR], ((0,), (0, 1))).rules, (NEVER, XOR))
        self.assertEqual(rules_mended(TORN, [XOR, XOR], ((), (0, 1))).rules, (XOR,) * 3)
        self.assertEqual(rules_mended(TORN, (), ((0,), ())).rules, ())

    def test_errors(self):
        for odd in helper.ODD_VALUES + (Weird(), (Weird(), ()), (), ((),), ((), (), ()), [(), ()], ((), []), ([], ()),
                                        ((1,), ()), ((), (1,)), ((-1,), ()), ((True,), ()), ((False,), ()), ((0, 0), ()),
                                        ((), (0, 0)), ((0.0,), ()), (("0",), ()), ((None,), ()), ((Weird(),), ()),
                                        (None, ()), ((), 0)):
            self.assertEqual(raised(rules_mended, TORN, [NEVER], odd), (InvalidQuestion, 1), repr(odd))
        self.assertEqual(raised(rules_mended, TORN, [NEVER, NEVER], ((), (1, 0))), (InvalidQuestion, 1))
        check_menus(self, lambda menu: rules_mended(TORN, menu, None))


def check_menus(test, ask):
    for odd in (None, True, 0, "ab", {}, {NEVER}, [NEVER] * 7, (NEVER,) * 7, Weird(), object(), iter(())):
        test.assertEqual(raised(ask, odd), (InvalidQuestion, 0), repr(odd))
    for odd in helper.ODD_VALUES + (Weird(), ("imply", ("z",), ()), ("imply", ("a",)), ("cap", (("a", -1),), 2)):
        test.assertEqual(raised(ask, [NEVER, odd, None]), (InvalidRule, 1), repr(odd))
    test.assertEqual(raised(ask, [None] * 7), (InvalidQuestion, 0))
    test.assertEqual(raised(ask, [NEVER] * 6), (InvalidQuestion, 1))


class FewestTest(unittest.TestCase):
    def test_by_words(self):
        sizes = set()
        for book, rules, menu, most in asks(933, 120):
            right = None
            for size in range(most + 1):
                working = [mend for mend in all_mends(rules, menu, size)
                           if helper.is_bendable(states_behind(book.services, rules, menu, mend))]
                if working:
                    right = min(working)
                    break
            self.assertEqual(fewest_rules(book, menu, most), right)
            sizes.add(None if right is None else (len(right[0]), len(right[1])))
        self.assertLessEqual({None, (0, 0), (1, 0), (0, 1), (2, 0)}, sizes)

    def test_by_hand(self):
        self.assertEqual(fewest_rules(most=4, menu=[NEVER], book=TORN), ((), (0,)))
        self.assertEqual(fewest_rules(TORN, [], 1), ((0,), ()))
        self.assertIsNone(fewest_rules(TORN, [NEVER], 0))
        self.assertIsNone(fewest_rules(TORN, [XOR, XOR], 0))
        twice = Rulebook(lot("ab"), [XOR, XOR])
        self.assertIsNone(fewest_rules(twice, [XOR], 1))
        self.assertEqual(fewest_rules(twice, [XOR], 2), ((0, 1), ()))
        self.assertEqual(fewest_rules(Rulebook(lot("ab"), []), [], 0), ((), ()))
        self.assertEqual(fewest_rules(twice, [("imply", (), ()), NEVER], 2), ((), (0,)))

    def test_errors(self):
        for ask in (fewest_rules, rules_tree, lambda *told: rules_tree_holds(*told, None)):
            check_menus(self, lambda menu, ask=ask: ask(TORN, menu, None))
            for odd in (None, True, False, -1, 5, 1.0, "1", (1,), Weird(), object()):
                self.assertEqual(raised(ask, TORN, [], odd), (InvalidQuestion, 1), repr(odd))
            for most in (0, 4):
                self.assertIsNone(raised(ask, TORN, [NEVER] * 6, most))


class TreeTest(unittest.TestCase):
    def test_by_words(self):
        chance = random.Random(934)
        found = set()
        for book, rules, menu, most in [*asks(935, 200), *deep_asks()]:
            tree = rules_tree(book, menu, most)
            self.assertIs(tree is None, fewest_rules(book, menu, most) is not None)
            if tree is None:
                continue
            self.assertTrue(is_tree(book.services, rules, menu, most, tree))
            self.assertIs(rules_tree_holds(book, menu, most, tree), True)
            other = random_tree(chance, book.services, rules, menu, most)
            self.assertIs(rules_tree_holds(book, menu, most, other), True)
            found.add(max(len(place) for place in places(tree)) // 2)
        self.assertLessEqual({1, 2, 3}, found)

    def test_by_hand(self):
        a, b = lot("a"), lot("b")
        self.assertEqual(rules_tree(most=0, menu=[], book=TORN)[2], ((),))
        self.assertIs(rules_tree_holds(TORN, [], 0, (a, b, ((),))), True)
        self.assertIs(rules_tree_holds(value=(b, a, ((),)), most=0, menu=[], book=TORN), True)
        self.assertIs(rules_tree_holds(TORN, [NEVER], 0, (a, b, ((), ()))), True)
        self.assertIs(rules_tree_holds(TORN, [NEVER], 0, (a, b, ((),))), False)
        self.assertIs(rules_tree_holds(TORN, [XOR], 0, (a, b, ((),))), True)
        self.assertIs(rules_tree_holds(TORN, [], 1, (a, b, ((),))), False)
        self.assertIsNone(rules_tree(TORN, [], 1))
        twice = Rulebook(lot("ab"), [XOR, XOR])
        self.assertIs(rules_tree_holds(twice, [XOR], 1, (a, b, ((),))), True)

    def test_spoilt_values(self):
        chance = random.Random(936)
        checked = 0
        for book, rules, menu, most in [*asks(937, 40), *deep_asks()]:
            good = rules_tree(book, menu, most)
            every = [] if good is None else list(places(good))
            for place in every if len(every) < 30 else chance.sample(every, 30):
                here = thing_at(good, place)
                for odd in (None, (), ((),), lot("a"), lot("z"), good, "a", True, Weird(), list(lots("a b")),
                            list(here) if isinstance(here, tuple) else [here], here + here):
                    value = spoilt(good, place, odd)
                    right = not isinstance(odd, (Weird, list))
                    right = right and is_tree(book.services, rules, menu, most, value)
                    self.assertIs(rules_tree_holds(book, menu, most, value), right, repr(odd))
                    checked += 1
        self.assertGreater(checked, 500)

    def test_other_values(self):
        for odd in helper.ODD_VALUES + (Weird(), (Weird(),), (Weird(), Weird(), Weird()), (lot("a"), lot("b"), Weird()),
                                        (lot("a"), lot("b"), [()]), (lot("a"), lot("a"), ((),)), (lot("a"), (), ((),)),
                                        (["a"], lot("b"), ((),)), [lot("a"), lot("b"), ((),)],
                                        (lot("a"), lot("b"), ((),), ()), (lot("a"), lot("b"), ())):
            self.assertIs(rules_tree_holds(TORN, [], 0, odd), False, repr(odd))


if __name__ == "__main__":
    unittest.main()
