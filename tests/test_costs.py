"""[46] to [48]: costs, and middles that cost no more than what they stand between."""

import itertools
import random
import unittest

from stopsfirst.costs import Cost, even_middles, lids_of, steep_changes, under, uneven
from stopsfirst.errors import InvalidCost, InvalidQuestion, InvalidServices, InvalidState, NotAllowed
from stopsfirst.rulebooks import Rulebook
from tests import helper
from tests.helper import Weird, join, lot, lots, meet, part, raised

FREE = Rulebook(lot("abc"), [])
CLASH = Rulebook(lot("abc"), [("imply", lot("ab"), ())])
BOOKS = helper.random_books(461, 40)
BENDABLE = helper.bendable_books(462, 40)


def value_by_words(form, state):
    runs = set(state)
    if form[0] == "sum":
        return sum(number for name, number in form[1] if name in runs)
    if form[0] == "cut":
        return sum(number for x, y, number in form[1] if len({x, y} & runs) == 1)
    if form[0] == "peak":
        return max([0] + [n for name, n in form[1] if name in runs] + [n for name, n in form[2] if name not in runs])
    if form[0] == "told":
        return {told: number for told, number in form[1]}.get(state, 0)
    return max(value_by_words(inner, state) for inner in form[1])


def random_form(chance, services, word=None, scale=4):
    services = sorted(services)
    word = word or chance.choice(("sum", "cut", "peak", "told", "most"))
    if word == "most":
        return ("most", tuple(random_form(chance, services, chance.choice(("sum", "cut", "peak", "told")), scale)
                              for _ in range(chance.randrange(1, 5))))
    if word == "cut":
        return ("cut", tuple((x, y, chance.randrange(1, scale)) for x, y in itertools.combinations(services, 2)
                             if chance.random() < 0.6))
    if word == "told":
        return ("told", tuple((told, chance.randrange(-scale, scale)) for told in helper.all_lots(services)
                              if chance.random() < 0.7))
    if word == "sum":
        return ("sum", tuple((name, chance.randrange(-scale, scale)) for name in services if chance.random() < 0.8))
    return ("peak", *[tuple((name, chance.randrange(scale)) for name in services if chance.random() < 0.6)
                      for _ in range(2)])


def random_costs(seed, services, many):
    """Pairs of a cost, about all or only some of the services, and a function that works out its value."""
    chance = random.Random(seed)
    found = []
    for _ in range(many):
        names = [name for name in services if chance.random() < 0.8] or list(services)
        chance.shuffle(names)
        form = random_form(chance, names)
        found.append((Cost(names, form), told_value(names, form)))
    return found


def told_value(names, form):
    return lambda state: value_by_words(form, meet(state, names))


def even_by_words(states, values, a, b):
    return tuple(x for x in helper.middles(states, a, b)
                 if all(value(told) <= max(value(a), value(b)) for value in values for told in (x, join(x, b))))


class CostTest(unittest.TestCase):
    def test_values_of_all_forms(self):
        chance = random.Random(463)
        for word in ("sum", "cut", "peak", "told", "most"):
            for _ in range(40):
                form = random_form(chance, "abcd", word)
                cost = Cost(list("dbca"), form)
                for state in helper.all_lots("abcd") + [lot("abz"), ("zz",), ("a", "ab", "c")]:
                    told = cost(state)
                    self.assertEqual(told, value_by_words(form, meet(state, "abcd")))
                    self.assertIs(type(told), int)

    def test_by_hand(self):
        self.assertEqual(Cost(lot("ab"), ("sum", (("a", 2), ("b", -3))))(lot("ab")), -1)
        self.assertEqual(Cost(lot("ab"), ("cut", (("a", "b", 5),)))(lot("a")), 5)
        self.assertEqual(Cost(lot("ab"), ("cut", (("a", "b", 5),)))(lot("ab")), 0)
        peak = Cost(lot("ab"), ("peak", (("a", 2),), (("a", 1), ("b", 7))))
        self.assertEqual([peak(state) for state in lots("- a ab b")], [7, 7, 2, 1])
        told = Cost(form=("told", (((), -2), (lot("ab"), 3))), services=["b", "a"])
        self.assertEqual([told(state=state) for state in lots("- a ab abc b c")], [-2, 0, 3, 3, 0, -2])
        self.assertEqual(Cost(lot("a"), ("most", (("sum", (("a", -1),)), ("told", ((lot("a"), -4),)))))(lot("a")), -1)

    def test_forms_without_rows(self):
        for form in (("sum", ()), ("cut", ()), ("peak", (), ()), ("told", ()), ("most", (("sum", ()),)),
                     ("most", (("cut", ()), ("peak", (), ()), ("told", ()), ("sum", ())))):
            cost = Cost(lot("ab"), form)
            self.assertEqual([cost(state) for state in lots("- a ab z")], [0, 0, 0, 0])
            self.assertEqual((cost.services, cost.form), (lot("ab"), form))

    def test_calls_with_other_values(self):
        cost = Cost(lot("ab"), ("sum", (("a", 2),)))
        for odd in helper.ODD_VALUES + (["a"], lot("aba"), lot("ba"), Weird(), (Weird(),)):
            right = None if helper.is_same(odd, ("z",)) else (InvalidState, 0)
            self.assertEqual(raised(cost, odd), right, repr(odd))

    def test_equal_ones(self):
        one = Cost(lot("ab"), ("sum", (("a", 2),)))
        self.assertTrue(one == Cost(["b", "a"], ("sum", (("a", 2),))))
        self.assertFalse(one != Cost(["b", "a"], ("sum", (("a", 2),))))
        for other in (Cost(lot("abc"), one.form), Cost(lot("ab"), ("sum", ())), Cost(lot("ab"), ("sum", (("a", 3),))),
                      None, one.form, (one.services, one.form), Rulebook(lot("ab"), []), 0):
            self.assertFalse(one == other)
            self.assertTrue(one != other)

    def test_services(self):
        for odd in helper.ODD_VALUES + (["a", "b", "a"], ["a", "B"], list("abcdefghijk"), Weird(), (Weird(),)):
            right = raised(Rulebook, odd, ())
            if right:
                self.assertEqual(raised(Cost, odd, None), right, repr(odd))
        self.assertEqual(raised(Cost, ["a", "b", "a"], None), (InvalidServices, 2))
        self.assertEqual(raised(Cost, list("abcdefghijk"), ("sum", ())), (InvalidServices, 10))
        self.assertEqual(raised(Cost, [], ("sum", ())), (InvalidServices, 0))


# Forms about the services a, b, c that are wrong, with the number that tells where.
WRONG = [
    (("sum",), -1), (("sum", (), ()), -1), (("sum", []), -1), (["sum", ()], -1), (("peak", ()), -1), ((), -1),
    (("peak", (), [])  , -1), (("peak", (), (), ()), -1), (("cut", None), -1), (("told", {}), -1), (("total", ()), -1),
    (("most", ()), -1), (("most", [("sum", ())]), -1), (("most", (("sum", ()),) * 5), -1), (("most", (1, 2, 3, 4, 5)), -1),
    (("most", (("sum", ()),), ()), -1), (("most",), -1), (("sum", "a"), -1), (("sum", lot("ab")), 0),
    (("sum", (("a", 1), ("b", 2, 3))), 1), (("sum", (("a", 1), ["b", 2])), 1), (("sum", (("a", True),)), 0),
    (("sum", (("a", 1), ("a", 2))), 1), (("sum", (("b", 1), ("a", 2))), 1), (("sum", (("a", 1), ("d", 2))), 1),
    (("sum", (("a", 1), ("b", 2.0))), 1), (("sum", (("a", 1), ("b", None))), 1), (("sum", (("a",),)), 0),
    (("sum", (("a", 1), ("c", 1), ("b", 2), 5)), 2), (("sum", ((("a",), 1),)), 0),
    (("cut", (("a", "b", 0),)), 0), (("cut", (("b", "a", 1),)), 0), (("cut", (("a", "a", 1),)), 0),
    (("cut", (("a", "b", 1), ("a", "b", 2))), 1), (("cut", (("a", "c", 1), ("a", "b", 2))), 1),
    (("cut", (("b", "c", 1), ("a", "c", 2))), 1), (("cut", (("a", "b", -1),)), 0), (("cut", (("a", "b", True),)), 0),
    (("cut", (("a", "b", 1), ("a", "z", 1))), 1), (("cut", (("a", "b"),)), 0), (("cut", (["a", "b", 1],)), 0),
    (("cut", (("a", "b", 1), None)), 1), (("cut", (("a", None, 1),)), 0),
    (("peak", (("a", -1),), ()), 0), (("peak", (("a", 1),), (("b", -1),)), 1), (("peak", (("a", True),), ()), 0),
    (("peak", (("a", 1), ("b", 1)), (("b", 1), ("b", 2))), 3), (("peak", (("a", 1), ("a", 1)), (5,)), 1),
    (("peak", (("b", 1),), (("a", 1), ("c", 1), ("b", 1))), 3), (("peak", (), (("z", 1),)), 0),
    (("peak", (("a", 1),), (("a", 1), ("c", "1"))), 2), (("peak", (), (["a", 1],)), 0),
    (("told", ((lot("a"), 1), (lot("a"), 2))), 1), (("told", ((lot("b"), 1), (lot("a"), 2))), 1),
    (("told", ((lot("a"), True),)), 0), (("told", ((["a"], 1),)), 0), (("told", ((lot("ba"), 1),)), 0),
    (("told", ((lot("a"), 1), (lot("d"), 1))), 1), (("told", (("a", 1),)), 0), (("told", (((), 1), ((), 1))), 1),
    (("told", (((), 1, 2),)), 0), (("told", (((), 1), 7)), 1), (("told", (((), None),)), 0),
    (("most", (("sum", ()), ("most", (("sum", ()),)))), 1), (("most", (5,)), 0), (("most", (("sum", ()), None)), 1),
    (("most", (("sum", ()), ("cut", (("a", "b", 0),)), 5)), 1), (("most", (("peak", ()),)), 0),
    (("most", (("sum", ()), ("sum", ()), ["sum", ()], ("sum", ()))), 2), (("most", ((), 1, 2, 3)), 0),
    (("most", (("sum", (("a", 1),)), ("told", (((), 1),)), ("peak", (), (("a", -1),)))), 2),
]


class WrongCostTest(unittest.TestCase):
    def test_wrong_forms(self):
        for form, at in WRONG:
            self.assertEqual(raised(Cost, lot("abc"), form), (InvalidCost, at), form)

    def test_odd_values(self):
        for odd in helper.ODD_VALUES + (Weird(), (Weird(), ()), (["sum"], ())):
            self.assertEqual(raised(Cost, lot("abc"), odd), (InvalidCost, -1), repr(odd))
            if not isinstance(odd, tuple):
                for form in (("sum", odd), ("cut", odd), ("peak", odd, ()), ("peak", (), odd), ("told", odd),
                             ("most", odd)):
                    self.assertEqual(raised(Cost, lot("abc"), form), (InvalidCost, -1), repr(odd))
            for form in (("sum", (odd,)), ("cut", (odd,)), ("peak", (odd,), ()), ("peak", (), (odd,)),
                         ("told", (odd,)), ("most", (odd,)), ("sum", ((odd, 1),)), ("told", ((odd, 1),)),
                         ("cut", ((odd, "b", 1),)), ("cut", (("a", odd, 1),)), ("peak", ((odd, 1),), ())):
                if not any(helper.is_same(odd, right) for right in ("a", ("a",), ("a", 1))):
                    self.assertEqual(raised(Cost, lot("abc"), form), (InvalidCost, 0), repr(form))
            if odd.__class__ is not int:
                for form in (("sum", (("a", odd),)), ("cut", (("a", "b", odd),)), ("peak", (("a", odd),), ()),
                             ("told", ((lot("a"), odd),))):
                    self.assertEqual(raised(Cost, lot("abc"), form), (InvalidCost, 0), repr(odd))

    def test_right_ones(self):
        for form in (("sum", (("a", -5), ("c", 0))), ("cut", (("a", "b", 1), ("a", "c", 1), ("b", "c", 2))),
                     ("peak", (("b", 0), ("c", 3)), (("a", 1),)), ("told", (((), -1), (lot("ab"), 0), (lot("b"), 3)))):
            self.assertEqual(Cost(lot("abc"), form).form, form)
            self.assertEqual(Cost(lot("abc"), ("most", (form,) * 4)).form, ("most", (form,) * 4))


class LidsTest(unittest.TestCase):
    def test_by_words(self):
        chance = random.Random(464)
        for _ in range(40):
            told = random_costs(chance.random(), "abcd", chance.randrange(1, 4))
            states = [chance.choice(helper.all_lots("abcd")) for _ in range(chance.randrange(1, 6))]
            right = tuple(max(value(state) for state in states) for _, value in told)
            for costs in ([cost for cost, _ in told], tuple(cost for cost, _ in told)):
                self.assertEqual(lids_of(costs, states), right)
                self.assertEqual(lids_of(states=tuple(states), costs=costs), right)


class EvenTest(unittest.TestCase):
    def questions(self, books, seed, many):
        for at, (services, rules) in enumerate(books):
            states = helper.allowed(services, rules)
            for count in range(many):
                told = random_costs(seed * 10000 + at * 10 + count, services, 1 + count % 3)
                yield Rulebook(services, rules), states, [cost for cost, _ in told], [value for _, value in told]

    def test_even_middles_and_uneven_pairs(self):
        found = set()
        for book, states, costs, values in self.questions(BOOKS, 465, 3):
            first = None
            for a in states:
                for b in states:
                    right = even_by_words(states, values, a, b)
                    self.assertEqual(even_middles(book, costs, a, b), right)
                    first = first or (None if right else (a, b))
            self.assertEqual(uneven(book, tuple(costs)), first)
            found.add((len(costs), first is None))
        self.assertEqual(len(found), 6)

    def test_under(self):
        chance = random.Random(466)
        for book, states, costs, values in self.questions(BOOKS, 467, 3):
            lids = [chance.randrange(-3, 9) for _ in costs]
            right = tuple(state for state in states if all(value(state) <= lid for value, lid in zip(values, lids)))
            told = under(book, costs, lids)
            self.assertEqual(told.rules, (("table", book.services, right),))
            self.assertEqual((told.services, told.states()), (book.services, right))
            self.assertEqual(under(lids=tuple(lids), costs=tuple(costs), book=book), told)

    def test_steep_changes(self):
        found = set()
        for book, states, costs, values in self.questions(BOOKS + BENDABLE, 468, 3):
            right = []
            for a in states:
                for b in states:
                    lids = [max(value(a), value(b)) for value in values]
                    low = [s for s in states if all(value(s) <= lid for value, lid in zip(values, lids))]
                    if not part(a, b) and helper.between(low, meet(a, b), a) == [a]:
                        if helper.between(low, b, join(a, b)) == [b]:
                            right.append((a, b))
            self.assertEqual(steep_changes(book, costs), tuple(right))
            found.add(bool(right))
        self.assertEqual(found, {True, False})

    def test_steep_changes_have_no_even_middle(self):
        for book, _, costs, _ in self.questions(BENDABLE, 469, 2):
            for a, b in steep_changes(book, costs):
                self.assertEqual(even_middles(book, costs, a, b), ())
            self.assertIs(steep_changes(book, costs) == (), uneven(book, costs) is None)

    def test_by_hand(self):
        cost = Cost(lot("ab"), ("told", (((), 5), (lot("a"), 1))))
        self.assertEqual(even_middles(CLASH, [cost], lot("a"), lot("b")), ())
        self.assertEqual(even_middles(b=lot("c"), a=lot("a"), costs=[cost], book=CLASH), lots("- a"))
        self.assertEqual(uneven(CLASH, (cost,)), lots("a b"))
        self.assertIsNone(uneven(FREE, [cost]))
        self.assertEqual(under(FREE, [cost, cost], [1, 0]).states(), lots("ab abc b bc"))
        self.assertEqual(under(FREE, [cost], [-1]).states(), ())
        only = Cost(lot("abc"), ("told", (((), 5), (lot("a"), 1), (lot("b"), 1), (lot("c"), 9))))
        self.assertIn(lots("a b"), steep_changes(costs=[only], book=CLASH))
        self.assertEqual(steep_changes(FREE, [only]), ())

    def test_errors_in_their_order(self):
        good = Cost(lot("ab"), ("sum", ()))
        other = Cost(lot("az"), ("sum", ()))
        for ask in (lambda costs: even_middles(CLASH, costs, None, None), lambda costs: uneven(CLASH, costs),
                    lambda costs: under(CLASH, costs, None), lambda costs: steep_changes(CLASH, costs)):
            self.assertEqual(raised(ask, [other]), (InvalidServices, 0))
            self.assertEqual(raised(ask, (good, other, other)), (InvalidServices, 1))
            self.assertEqual(raised(ask, [good, good, other]), (InvalidServices, 2))
        for odd in helper.ODD_VALUES + (["a"], lot("az"), Weird()):
            self.assertEqual(raised(even_middles, CLASH, [good], odd, odd), (InvalidState, 0), repr(odd))
            self.assertEqual(raised(even_middles, CLASH, [good], lot("ab"), odd), (InvalidState, 1), repr(odd))
            right = None if helper.is_same(odd, (1,)) else (InvalidQuestion, 0)
            self.assertEqual(raised(under, CLASH, [good], odd), right, repr(odd))
            if odd.__class__ is not int:
                self.assertEqual(raised(under, CLASH, [good, good], [0, odd]), (InvalidQuestion, 0), repr(odd))
        self.assertEqual(raised(even_middles, CLASH, [good], lot("ab"), lot("ab")), (NotAllowed, 0))
        self.assertEqual(raised(even_middles, CLASH, [good], lot("a"), lot("ab")), (NotAllowed, 1))
        for lids in ([], [0], [0, 0, 0], {0: 0, 1: 0}, range(2), "ab"):
            self.assertEqual(raised(under, CLASH, [good, good], lids), (InvalidQuestion, 0))
        self.assertIsNone(raised(under, CLASH, [good, good], (-5, 10 ** 30)))


if __name__ == "__main__":
    unittest.main()
