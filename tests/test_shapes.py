"""[49] and [50]: shapes of costs, and rulebooks that show what they spoil."""

import random
import unittest

from stopsfirst.costs import Cost, even_middles, uneven
from stopsfirst.errors import InvalidQuestion
from stopsfirst.rulebooks import Rulebook
from stopsfirst.shapes import join_fault, meet_fault, refuting, singles
from tests import helper
from tests.helper import Weird, join, lot, lots, meet, raised
from tests.test_costs import random_form, value_by_words
from tests.test_kinds import gap


def random_values(seed, many):
    """Costs with functions that work out their values: all forms, and tables with few or many different numbers."""
    chance = random.Random(seed)
    found = []
    for at in range(many):
        services = ("abcd", "abc", "ab")[at % 3]
        form = random_form(chance, services) if at % 2 else ("told", tuple(
            (told, chance.choice((0, 1) if at % 4 else (0, 1, 2, 3))) for told in helper.all_lots(services)))
        found.append((Cost(lot(services), form), form))
    return found


def single_values(seed, many):
    """Costs whose value is the greatest of numbers for services that run or rest: these are single."""
    chance = random.Random(seed)
    found = []
    for _ in range(many):
        form = random_form(chance, "abc", "peak")
        found.append((Cost(lot("abc"), form), form))
    return found


COSTS = random_values(491, 120) + single_values(492, 20)


def fault_by_words(form, services, tell):
    for a in helper.all_lots(services):
        for b in helper.all_lots(services):
            if value_by_words(form, tell(a, b)) > max(value_by_words(form, a), value_by_words(form, b)):
                return (a, b)
    return None


def mixed_by_words(form, services):
    every = helper.all_lots(services)
    value = {told: value_by_words(form, told) for told in every}
    for a in every:
        for b in every:
            for m in every:
                if helper.part(meet(a, b), m) and helper.part(m, join(a, b)) and value[m] > max(value[a], value[b]):
                    return ("mixed", a, b, m)
    return None


class FaultTest(unittest.TestCase):
    def test_by_words(self):
        found = set()
        for cost, form in COSTS:
            told = (meet_fault(cost), join_fault(cost))
            self.assertEqual(told[0], fault_by_words(form, cost.services, meet))
            self.assertEqual(told[1], fault_by_words(form, cost.services, join))
            found.add((told[0] is None, told[1] is None))
        self.assertEqual(len(found), 4)

    def test_even_where_states_are_closed(self):
        """The fact at the end of [49]."""
        chance = random.Random(493)
        seen = set()
        for cost, _ in COSTS:
            for _ in range(6):
                states = [state for state in helper.all_lots(cost.services) if chance.random() < 0.4]
                for tell, fault in ((meet, meet_fault), (join, join_fault)):
                    closed = states
                    while gap(closed, tell.__name__):
                        closed = sorted({tell(a, b) for a in closed for b in closed})
                    if fault(cost) is None and closed:
                        book = Rulebook(cost.services, helper.table_of(cost.services, closed))
                        self.assertIsNone(uneven(book, [cost]))
                        seen.add(tell)
        self.assertEqual(len(seen), 2)

    def test_by_hand(self):
        self.assertEqual(join_fault(Cost(lot("ab"), ("sum", (("a", 1), ("b", 1))))), lots("a b"))
        self.assertIsNone(meet_fault(Cost(lot("ab"), ("sum", (("a", 1), ("b", 1))))))
        self.assertEqual(meet_fault(cost=Cost(lot("ab"), ("sum", (("a", -1), ("b", -1))))), lots("a b"))
        self.assertIsNone(join_fault(cost=Cost(lot("ab"), ("sum", (("a", -1), ("b", -1))))))
        self.assertIsNone(meet_fault(Cost(lot("a"), ("sum", ()))))


class SinglesTest(unittest.TestCase):
    def test_by_words(self):
        found = set()
        for cost, form in COSTS:
            told = singles(cost)
            found.add(told[0])
            mixed = mixed_by_words(form, cost.services)
            if mixed is not None:
                self.assertEqual(told, mixed)
                continue
            every = helper.all_lots(cost.services)
            rows = tuple((name, min(value_by_words(form, state) for state in every if name in state),
                          min(value_by_words(form, state) for state in every if name not in state))
                         for name in cost.services)
            self.assertEqual(told, ("single", rows))
            for state in every:
                self.assertEqual(value_by_words(form, state), max(one if name in state else other
                                                                  for name, one, other in rows))
        self.assertEqual(found, {"mixed", "single"})

    def test_single_costs_are_even_in_bendable_rulebooks(self):
        books = [Rulebook(*told) for told in helper.bendable_books(494, 30, "abc")]
        for cost, _ in single_values(495, 10) + [told for told in COSTS if told[0].services == lot("abc")]:
            if singles(cost)[0] == "single":
                for book in books:
                    self.assertIsNone(uneven(book, [cost]))

    def test_by_hand(self):
        self.assertEqual(singles(Cost(lot("b"), ("sum", (("b", -2),)))), ("single", (("b", -2, 0),)))
        self.assertEqual(singles(cost=Cost(lot("ab"), ("sum", (("a", 1), ("b", 1))))),
                         ("mixed", lot("a"), lot("b"), lot("ab")))
        self.assertEqual(singles(Cost(lot("ab"), ("cut", (("a", "b", 1),)))), ("mixed", (), lot("ab"), lot("a")))
        self.assertEqual(singles(Cost(lot("ab"), ("peak", (("a", 3),), (("b", 1),)))),
                         ("single", (("a", 3, 0), ("b", 0, 1))))


class RefutingTest(unittest.TestCase):
    def check(self, cost, kind):
        told = refuting(cost, kind)
        if told is None:
            return None
        book, a, b = told
        states = list(book.states())
        self.assertIs(type(told), tuple)
        self.assertIsInstance(book, Rulebook)
        self.assertTrue(helper.part(cost.services, book.services))
        more = len(book.services) - len(cost.services)
        self.assertLessEqual(more, 2 if kind == "bendable" else 0)
        self.assertTrue(a in states and b in states)
        if kind == "bendable":
            self.assertTrue(helper.is_bendable(states))
        else:
            self.assertIsNone(gap(states, {"meets": "meet", "joins": "join"}[kind]))
        self.assertEqual(even_middles(book, [cost], a, b), ())
        most = max(cost(a), cost(b))
        for x in helper.middles(states, a, b):
            self.assertGreater(max(cost(x), cost(join(x, b))), most)
        return more

    def test_all_kinds(self):
        found = set()
        for cost, form in COSTS:
            faults = {"meets": fault_by_words(form, cost.services, meet),
                      "joins": fault_by_words(form, cost.services, join),
                      "bendable": mixed_by_words(form, cost.services)}
            for kind, fault in faults.items():
                more = self.check(cost, kind)
                self.assertIs(more is None, fault is None)
                found.add((kind, more))
        self.assertLessEqual({("bendable", 0), ("bendable", 2), ("meets", None), ("joins", 0)}, found)

    def test_neither_meet_nor_join_fault(self):
        """All tables of 0 and 1 for three services: those that are mixed only below, above or across are among them."""
        every = helper.all_lots("abc")
        found = set()
        for chosen in range(0, 256):
            form = ("told", tuple((told, chosen >> k & 1) for k, told in enumerate(every)))
            cost = Cost(lot("abc"), form)
            more = self.check(cost, "bendable")
            self.assertIs(more is None, singles(cost)[0] == "single")
            found.add((more, meet_fault(cost) is None and join_fault(cost) is None))
        self.assertLessEqual({(None, True), (0, False), (2, True)}, found)

    def test_names_of_new_services(self):
        """The new services are none of those that the cost has, whatever these are called."""
        form = ("told", tuple((told, 1) for told in (("b",), ("b", "c"))))
        for services in (("a", "b", "c"), ("b", "c", "d"), ("b", "c", "zz"), ("aa", "b", "c", "x", "y", "z")):
            cost = Cost(services, form)
            for kind in ("meets", "joins", "bendable"):
                self.check(cost, kind)

    def test_six_services(self):
        chance = random.Random(496)
        for _ in range(6):
            form = ("told", tuple((told, chance.choice((0, 1))) for told in helper.all_lots("abcdef")))
            for kind in ("meets", "joins", "bendable"):
                self.assertIsNotNone(self.check(Cost(lot("abcdef"), form), kind))
        for form in (("peak", (("a", 2), ("b", 3)), (("c", 1),)), ("sum", ())):
            for kind in ("meets", "joins", "bendable"):
                self.assertIsNone(refuting(kind=kind, cost=Cost(lot("abcdef"), form)))

    def test_other_kinds(self):
        for cost in (Cost(lot("ab"), ("sum", ())), Cost(lot("ab"), ("cut", (("a", "b", 1),)))):
            for odd in helper.ODD_VALUES + ("meet", "Meets", "join", "bend", ("meets",), ["joins"], b"joins", Weird()):
                self.assertEqual(raised(refuting, cost, odd), (InvalidQuestion, 0), repr(odd))


if __name__ == "__main__":
    unittest.main()
