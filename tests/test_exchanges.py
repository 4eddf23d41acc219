"""[101] and [102]: single orders, exchanges of neighbours, and papers about all orders."""

import itertools
import random
import unittest

from stopsfirst.errors import InvalidPlan, InvalidQuestion, InvalidState, NotAllowed
from stopsfirst.exchanges import exchange_row, is_order_paper, order_paper, single_orders
from stopsfirst.rulebooks import Rulebook
from tests import helper
from tests.helper import Weird, join, lot, lots, meet, minus, part, raised

FREE = Rulebook(lot("abc"), [])
CLASH = Rulebook(lot("abc"), [("imply", lot("ab"), ())])
# From nothing, a comes first or c does, and between both ways there is no exchange.
APART = Rulebook(lot("abcd"), [("table", lot("abcd"), lots("- a ab abc abcd b c cd bcd d"))])
SPLIT = Rulebook(lot("abcd"), [("table", lot("abcd"), lots("- a ab abc abcd c cd acd"))])


def books(seed, many, services="abcd", share=0.8):
    chance = random.Random(seed)
    for _ in range(many):
        states = [one for one in helper.all_lots(services) if chance.random() < share]
        if states:
            yield Rulebook(tuple(services), helper.table_of(services, states)), states


def orders_by_words(states, start, goal):
    if not part(start, goal):
        return []
    return [order for order in itertools.permutations(minus(goal, start))
            if all(join(start, order[:at]) in states for at in range(len(order) + 1))]


def neighbours(order):
    return [order[:at] + (order[at + 1], order[at]) + order[at + 2:] for at in range(len(order) - 1)]


def distances(states, start, goal, one):
    """For each single order that comes from one by exchanges the least number of them."""
    orders = set(orders_by_words(states, start, goal))
    numbers = {one: 0}
    level = [one]
    while level:
        further = []
        for order in level:
            for other in neighbours(order):
                if other in orders and other not in numbers:
                    numbers[other] = numbers[order] + 1
                    further.append(other)
        level = further
    return numbers


class OrderTest(unittest.TestCase):
    def test_by_words(self):
        counts = set()
        for book, states in books(1011, 20):
            for start, goal in itertools.product(states[::2], states[::3]):
                right = sorted(orders_by_words(states, start, goal))
                self.assertEqual(single_orders(book, start, goal), tuple(right))
                counts.add(len(right))
        self.assertLessEqual({0, 1, 2, 3, 4}, counts)

    def test_by_hand(self):
        self.assertEqual(single_orders(second=lot("abc"), first=lot("b"), book=FREE), (("a", "c"), ("c", "a")))
        self.assertEqual(single_orders(FREE, lot("a"), lot("a")), ((),))
        self.assertEqual(single_orders(FREE, lot("a"), lot("b")), ())
        self.assertEqual(single_orders(FREE, lot("ab"), lot("a")), ())
        self.assertEqual(single_orders(CLASH, (), lot("bc")), (("b", "c"), ("c", "b")))
        self.assertEqual(single_orders(SPLIT, (), lot("abcd")), (("a", "b", "c", "d"), ("c", "d", "a", "b")))


class RowTest(unittest.TestCase):
    def test_by_words(self):
        chance = random.Random(1012)
        found = set()
        closed = 0
        for book, states in books(1013, 200, "abcd", 0.8):
            start = chance.choice(states)
            goals = [goal for goal in states if orders_by_words(states, start, goal)]
            goal = max(goals, key=len)
            orders = orders_by_words(states, start, goal)
            one, other = chance.choice(orders), chance.choice(orders)
            numbers = distances(states, start, goal, one)
            word, told = exchange_row(book, start, list(one), other)
            if other in numbers:
                self.assertEqual((word, told[0], told[-1]), ("row", one, other))
                self.assertTrue(set(told) <= set(orders))
                self.assertEqual(len(told), numbers[other] + 1)
                for at in range(1, len(told)):
                    self.assertIn(told[at], neighbours(told[at - 1]))
                if self.is_closed(states):
                    self.assertEqual(len(told) - 1, self.swaps(one, other))
                    closed += 1
            else:
                self.assertEqual((word, told), ("apart", tuple(sorted(numbers))))
            self.assertIs(type(told), tuple)
            found.add((word, len(told)))
        self.assertLessEqual({("row", 1), ("row", 2), ("row", 3)}, found)
        self.assertIn("apart", {word for word, _ in found})
        self.assertGreater(closed, 0)

    def is_closed(self, states):
        pairs = list(itertools.product(states, repeat=2))
        return all(meet(a, b) in states for a, b in pairs) or all(join(a, b) in states for a, b in pairs)

    def swaps(self, one, other):
        """How many pairs of services stand in the other order."""
        return sum(other.index(x) > other.index(y) for x, y in itertools.combinations(one, 2))

    def test_closed_rulebooks(self):
        """There are as many exchanges as pairs in the other order."""
        for rules in ([], [("imply", lot("a"), lot("b"))], [("cap", [("a", 1), ("b", 1), ("c", 1), ("d", 1)], 3)],
                      [("imply", (), lot("ab"))]):
            book = Rulebook(lot("abcd"), rules)
            for goal in book.states():
                start = book.states()[0]
                orders = single_orders(book, start, goal)
                for one, other in itertools.product(orders[:6], orders[-6:]):
                    word, told = exchange_row(book, start, one, other)
                    self.assertEqual((word, len(told) - 1), ("row", self.swaps(one, other)))

    def test_by_hand(self):
        self.assertEqual(exchange_row(other=["b", "a"], one=("a", "b"), first=(), book=FREE),
                         ("row", (("a", "b"), ("b", "a"))))
        self.assertEqual(exchange_row(FREE, (), (), []), ("row", ((),)))
        self.assertEqual(exchange_row(FREE, (), ("a",), ("a",)), ("row", (("a",),)))
        self.assertEqual(exchange_row(SPLIT, (), list("abcd"), list("cdab")),
                         ("apart", (("a", "b", "c", "d"),)))
        self.assertEqual(exchange_row(APART, (), list("abc"), list("bac")), ("row", (tuple("abc"), tuple("bac"))))

    def test_errors(self):
        for odd in helper.ODD_VALUES + (["a"], lot("az"), Weird()):
            self.assertEqual(raised(exchange_row, CLASH, odd, None, None), (InvalidState, 0), repr(odd))
        self.assertEqual(raised(exchange_row, CLASH, lot("ab"), None, None), (NotAllowed, 0))
        for odd in (None, True, 0, "ab", {}, {"a"}, Weird(), object(), iter("a")):
            self.assertEqual(raised(exchange_row, CLASH, (), odd, odd), (InvalidPlan, 0), repr(odd))
            self.assertEqual(raised(exchange_row, CLASH, (), ["c"], odd), (InvalidPlan, 0), repr(odd))
        for odd in (None, True, 0, "z", "", "ac", b"a", ("a",), ["a"], Weird(), object()):
            self.assertEqual(raised(exchange_row, CLASH, (), ["c", odd, None], None), (InvalidPlan, 1), repr(odd))
            self.assertEqual(raised(exchange_row, CLASH, (), ("c",), ("c", "a", odd)), (InvalidPlan, 2), repr(odd))
        self.assertEqual(raised(exchange_row, CLASH, lot("a"), ["a"], None), (InvalidPlan, 0))
        self.assertEqual(raised(exchange_row, CLASH, (), ["c", "a", "c"], None), (InvalidPlan, 2))
        self.assertEqual(raised(exchange_row, CLASH, (), ["c", "a", "b"], None), (InvalidPlan, 2))
        self.assertEqual(raised(exchange_row, CLASH, (), ["c"], ["a", "b"]), (InvalidPlan, 1))
        self.assertEqual(raised(exchange_row, CLASH, (), ["c"], ["a"]), (InvalidQuestion, 0))
        self.assertEqual(raised(exchange_row, CLASH, (), [], ["a"]), (InvalidQuestion, 0))
        self.assertEqual(raised(exchange_row, CLASH, (), ["c", "a"], ["c"]), (InvalidQuestion, 0))


class PaperTest(unittest.TestCase):
    def standing(self, states, start, goal):
        orders = orders_by_words(states, start, goal)
        return sorted({join(start, order[:at]) for order in orders for at in range(len(order) + 1)})

    def paper_by_words(self, states, start, goal):
        orders = orders_by_words(states, start, goal)
        if not orders:
            return None
        inside = self.standing(states, start, goal)
        for a, b in itertools.product(inside, repeat=2):
            if meet(a, b) not in inside or join(a, b) not in inside:
                return ("lacks", a, b)
        names = minus(goal, start)
        return ("pairs", tuple((x, y) for x in names for y in names
                               if x != y and all(order.index(x) < order.index(y) for order in orders)))

    def keeping(self, names, pairs):
        return {order for order in itertools.permutations(names)
                if all(x != y and order.index(x) < order.index(y) for x, y in pairs)}

    def questions(self, seed, many):
        for book, states in books(seed, many, "abcd", 0.85):
            for start, goal in itertools.product(states[:3], states[-4:]):
                yield book, states, start, goal

    def test_by_words(self):
        found = set()
        for book, states, start, goal in self.questions(1014, 25):
            told = order_paper(book, start, goal)
            right = self.paper_by_words(states, start, goal)
            self.assertEqual(told, right)
            self.assertIs(is_order_paper(book, start, goal, told), told is not None)
            if told and told[0] == "pairs":
                orders = set(orders_by_words(states, start, goal))
                self.assertEqual(self.keeping(minus(goal, start), told[1]), orders)
            found.add(told and (told[0], min(2, len(told[1]))))
        self.assertLessEqual({None, ("lacks", 1), ("pairs", 0), ("pairs", 1), ("pairs", 2)}, found)

    def test_lacking_pairs(self):
        """Each pair of order states that lacks something will do, and no other two states."""
        found = set()
        for book, states, start, goal in self.questions(1015, 10):
            inside = self.standing(states, start, goal)
            for a, b in itertools.product(states, repeat=2):
                right = a in inside and b in inside and (meet(a, b) not in inside or join(a, b) not in inside)
                self.assertIs(is_order_paper(book, start, goal, ("lacks", a, b)), right)
                found.add(right)
        self.assertEqual(found, {True, False})

    def test_pairs(self):
        """Any pairs that the single orders alone keep, in any order, also some of them twice."""
        chance = random.Random(1016)
        found = set()
        for book, states, start, goal in self.questions(1017, 25):
            orders = set(orders_by_words(states, start, goal))
            names = minus(goal, start)
            told = order_paper(book, start, goal) or ("pairs", ())
            base = list(told[1]) if told[0] == "pairs" else []
            for _ in range(8):
                pairs = [pair for pair in base if chance.random() < 0.9]
                if names and chance.random() < 0.4:
                    pairs.append((chance.choice(names), chance.choice(names)))
                pairs += chance.sample(pairs, chance.randrange(len(pairs) + 1))
                chance.shuffle(pairs)
                right = bool(orders) and self.keeping(names, pairs) == orders
                self.assertIs(is_order_paper(book, start, goal, ("pairs", tuple(pairs))), right)
                found.add((right, len(set(pairs)) < len(pairs)))
        self.assertEqual(found, set(itertools.product((True, False), repeat=2)))

    def test_by_hand(self):
        self.assertEqual(order_paper(second=lot("abc"), first=(), book=FREE), ("pairs", ()))
        need = Rulebook(lot("ab"), [("imply", lot("a"), lot("b"))])
        self.assertEqual(order_paper(need, (), lot("ab")), ("pairs", (("b", "a"),)))
        self.assertEqual(order_paper(FREE, lot("a"), lot("a")), ("pairs", ()))
        self.assertIsNone(order_paper(FREE, lot("a"), lot("b")))
        self.assertEqual(order_paper(SPLIT, (), lot("abcd")), ("lacks", lot("a"), lot("c")))
        self.assertIs(is_order_paper(FREE, lot("a"), lot("b"), ("pairs", ())), False)
        self.assertIs(is_order_paper(FREE, lot("a"), lot("a"), ("pairs", ())), True)
        self.assertIs(is_order_paper(FREE, lot("a"), lot("a"), ("pairs", (("a", "a"),))), False)

    def test_spoilt_papers(self):
        need = Rulebook(lot("ab"), [("imply", lot("a"), lot("b"))])
        good = ("pairs", (("b", "a"),))
        self.assertIs(is_order_paper(value=good, second=lot("ab"), first=(), book=need), True)
        odds = helper.ODD_VALUES + (Weird(), (Weird(),), (Weird(), Weird()), (), good[:1], good + ((),), list(good),
                                    ("pairs", [("b", "a")]), (b"pairs", good[1]), (Weird(), good[1]), ("lacks", good[1]))
        for odd in odds:
            self.assertIs(is_order_paper(need, (), lot("ab"), odd), False, repr(odd))
            self.assertIs(is_order_paper(need, (), lot("ab"), ("pairs", odd)), False, repr(odd))
            if not helper.is_same(odd, ("b", "a")):
                self.assertIs(is_order_paper(need, (), lot("ab"), ("pairs", (("b", "a"), odd))), False, repr(odd))
        for pair in (["b", "a"], ("b", "a", "a"), ("b",), ("b", "z"), (Weird(), "a"), ("b", Weird()), ("b", ("a",))):
            self.assertIs(is_order_paper(need, (), lot("ab"), ("pairs", (pair,))), False, repr(pair))
        lacks = ("lacks", lot("a"), lot("c"))
        self.assertIs(is_order_paper(SPLIT, (), lot("abcd"), lacks), True)
        for odd in odds:
            for at in range(3):
                if not helper.is_same(odd, lacks[at]):
                    spoilt = lacks[:at] + (odd,) + lacks[at + 1:]
                    self.assertIs(is_order_paper(SPLIT, (), lot("abcd"), spoilt), False, repr(odd))

    def test_errors(self):
        asks = (single_orders, order_paper, lambda *told: is_order_paper(*told, None))
        for ask in asks:
            for odd in helper.ODD_VALUES + (["a"], lot("az"), Weird(), (Weird(),)):
                self.assertEqual(raised(ask, CLASH, odd, odd), (InvalidState, 0), repr(odd))
                self.assertEqual(raised(ask, CLASH, lot("ab"), odd), (InvalidState, 1), repr(odd))
            self.assertEqual(raised(ask, CLASH, lot("ab"), lot("ab")), (NotAllowed, 0))
            self.assertEqual(raised(ask, CLASH, lot("a"), lot("ab")), (NotAllowed, 1))


if __name__ == "__main__":
    unittest.main()
