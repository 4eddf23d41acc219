"""[73] and [74]: marks, least batches and weights."""

import itertools
import random
import unittest

from stopsfirst.errors import InvalidQuestion, InvalidState, NotAllowed, NotBendable, Refused
from stopsfirst.plans import checked_batches, wrong_slot
from stopsfirst.rulebooks import Rulebook
from stopsfirst.slots import slot_plan, slot_states
from stopsfirst.windows import (
    least_batches, least_marks, lots_up_to, marked_slots, marks_back, marks_on, weight_ladder, weight_plan,
)
from tests import helper
from tests.helper import Weird, fits, join, lot, lots, meet, minus, part, raised

FREE = Rulebook(lot("ab"), [])
CLASH = Rulebook(lot("abc"), [("imply", lot("ab"), ())])
TORN = Rulebook(lot("ab"), [("table", lot("ab"), lots("a b"))])
SMALL = helper.bendable_books(731, 60, "abc")
BENDABLE = helper.bendable_books(732, 24)
BOOKS = [told for told in helper.random_books(733, 40) if helper.allowed(*told)]


def closed_books(both, seed, many, services="abcd"):
    """Rulebooks where the meet (or the join) of allowed states is always allowed: random states, and all these."""
    chance = random.Random(seed)
    found = []
    while len(found) < many:
        states = {state for state in helper.all_lots(services) if chance.random() < 0.4}
        while any(both(a, b) not in states for a in states for b in states):
            states |= {both(a, b) for a in states for b in states}
        if states:
            found.append((tuple(services), helper.table_of(services, sorted(states))))
    return found


def slots_by_words(marks, many):
    return [[tuple(sorted(name for name, at in marks if at == slot))] for slot in range(many)]


def is_reached(states, start, goal, slots):
    level = {start}
    for slot in slots:
        level = {b for b in states for a in level if fits(slot, minus(b, a))}
    return goal in level


def random_marks(chance, services, many):
    every = [(name, at) for name in services for at in range(many)]
    return tuple(pair for pair in every if chance.random() < 0.4)


class MarksTest(unittest.TestCase):
    def test_slots(self):
        self.assertEqual(marked_slots(CLASH, (("a", 1), ("b", 0), ("c", 1)), 3), (lots("b"), lots("ac"), ()))
        self.assertEqual(marked_slots(many=0, marks=(), book=CLASH), ())
        self.assertEqual(marked_slots(CLASH, (), 2), ((), ()))
        self.assertEqual(marked_slots(FREE, (("a", 0), ("a", 1), ("b", 0)), 2), (lots("ab"), lots("a")))
        chance = random.Random(734)
        for _ in range(40):
            many = chance.randrange(4)
            marks = random_marks(chance, "abc", many)
            told = [tuple(one for one in slot if one) for slot in slots_by_words(marks, many)]
            self.assertEqual(marked_slots(CLASH, marks, many), tuple(told))

    def least_by_words(self, states, services, start, goal, many):
        every = [(name, at) for name in services for at in range(many)]
        found = []
        for count in range(len(every) + 1):
            for marks in itertools.combinations(every, count):
                if not any(set(known) <= set(marks) for known in found):
                    if is_reached(states, start, goal, slots_by_words(marks, many)):
                        found.append(marks)
        return tuple(sorted(found))

    def test_least_marks(self):
        chance = random.Random(735)
        sizes = set()
        for services, rules in SMALL:
            states = helper.allowed(services, rules)
            for many in (0, 1, 2, 2, 3) if chance.random() < 0.4 else (0, 1, 2):
                start, goal = chance.choice(states), chance.choice(states)
                told = least_marks(Rulebook(services, rules), start, goal, many)
                self.assertEqual(told, self.least_by_words(states, services, start, goal, many))
                self.assertTrue(all(len({name for name, _ in marks}) == len(marks) for marks in told))
                sizes.add((many, len(told)))
        self.assertLessEqual({(0, 0), (0, 1), (1, 1), (2, 1), (2, 2), (3, 1)}, sizes)
        self.assertGreater(max(count for _, count in sizes), 3)

    def test_least_marks_by_hand(self):
        self.assertEqual(least_marks(FREE, (), lot("a"), 2), ((("a", 0),), (("a", 1),)))
        self.assertEqual(least_marks(many=2, goal=lot("ab"), start=lot("b"), book=FREE), ((("a", 0),), (("a", 1),)))
        self.assertEqual(least_marks(FREE, lot("a"), lot("a"), 0), ((),))
        self.assertEqual(least_marks(FREE, lot("ab"), lot("a"), 0), ())
        self.assertEqual(least_marks(FREE, lot("ab"), lot("a"), 1), ((),))
        self.assertEqual(least_marks(FREE, (), (), 3), ((),))
        one = Rulebook(lot("ab"), [("table", lot("ab"), lots("- b ab"))])
        self.assertEqual(least_marks(one, (), lot("ab"), 2),
                         ((("a", 0), ("b", 0)), (("a", 1), ("b", 0)), (("a", 1), ("b", 1))))

    def test_marks_lead_back(self):
        chance = random.Random(736)
        for services, rules in closed_books(meet, 737, 30):
            states = helper.allowed(services, rules)
            book = Rulebook(services, rules)
            for many in (0, 1, 2, 3):
                marks = random_marks(chance, services, many)
                goal = chance.choice(states)
                told = marks_back(book, goal, marks, many)
                self.assertEqual((len(told), told[-1]), (many + 1, goal))
                for at in range(many):
                    needed = minus(told[at + 1], [name for name, slot in marks if slot == at])
                    around = [state for state in states if part(needed, state)]
                    self.assertIn(told[at], around)
                    self.assertTrue(all(part(told[at], state) for state in around))
                for start in states if many else ():
                    reached = is_reached(states, start, goal, slots_by_words(marks, many))
                    self.assertIs(reached, part(told[0], start))
                    self.assertIs(goal in slot_states(book, start, marked_slots(book, marks, many))[-1], reached)

    def test_marks_lead_on(self):
        chance = random.Random(738)
        for services, rules in closed_books(join, 739, 30):
            states = helper.allowed(services, rules)
            book = Rulebook(services, rules)
            for many in (0, 1, 2, 3):
                marks = random_marks(chance, services, many)
                start = chance.choice(states)
                told = marks_on(book, start, marks, many)
                self.assertEqual((len(told), told[0]), (many + 1, start))
                for at in range(many):
                    most = join(told[at], [name for name, slot in marks if slot == at])
                    inside = [state for state in states if part(state, most)]
                    self.assertIn(told[at + 1], inside)
                    self.assertTrue(all(part(state, told[at + 1]) for state in inside))
                for goal in states if many else ():
                    reached = is_reached(states, start, goal, slots_by_words(marks, many))
                    self.assertIs(reached, part(goal, told[-1]))

    def test_by_hand(self):
        marks = (("a", 0), ("b", 1))
        self.assertEqual(marks_back(book=FREE, goal=lot("ab"), marks=marks, many=2), lots("- a ab"))
        self.assertEqual(marks_on(book=FREE, start=(), marks=marks, many=2), lots("- a ab"))
        self.assertEqual(marks_back(CLASH, lot("bc"), (("c", 0),), 1), lots("b bc"))
        self.assertEqual(marks_on(TORN_JOIN, lot("a"), (("b", 0),), 1), lots("a ab"))

    def test_refused(self):
        self.assertEqual(raised(marks_back, TORN_JOIN, lot("a"), (), 1), (Refused, 0))
        self.assertEqual(raised(marks_on, CLASH, lot("a"), (), 1), (Refused, 0))
        self.assertIsNone(raised(marks_back, CLASH, lot("a"), (), 1))
        self.assertIsNone(raised(marks_on, TORN_JOIN, lot("a"), (), 1))
        self.assertEqual(raised(marks_back, TORN, lot("a"), (), 0), (Refused, 0))
        self.assertEqual(raised(marks_on, TORN, lot("a"), (), 0), (Refused, 0))


TORN_JOIN = Rulebook(lot("ab"), [("imply", (), lot("ab"))])


def antichains(services):
    """All batches in the form of `checked_batches`."""
    found = [()]
    for one in helper.all_lots(services)[1:]:
        found += [batches + (one,) for batches in found if not any(part(one, b) or part(b, one) for b in batches)]
    return [tuple(sorted(batches)) for batches in found]


def is_less(one, other):
    return one != other and all(any(part(a, b) for b in other) for a in one)


class BatchesTest(unittest.TestCase):
    def test_by_words(self):
        every = antichains("abc")
        counts = set()
        for services, rules in SMALL:
            states = helper.allowed(services, rules)
            book = Rulebook(services, rules)
            for start, goal in itertools.product(states, repeat=2):
                enough = [batches for batches in every if goal in helper.reached(states, start, batches)]
                right = tuple(sorted(b for b in enough if not any(is_less(a, b) for a in enough)))
                told = least_batches(book, start, goal)
                self.assertEqual(told, right)
                self.assertTrue(all(checked_batches(book, batches) == batches for batches in told))
                counts.add(len(told))
        self.assertLessEqual({1, 2}, counts)

    def test_four_services(self):
        for services, rules in BENDABLE[:8]:
            states = helper.allowed(services, rules)
            book = Rulebook(services, rules)
            for start, goal in ((states[0], states[-1]), (states[-1], states[0])):
                for batches in least_batches(book, start, goal):
                    self.assertIn(goal, helper.reached(states, start, batches))
                    for at, one in enumerate(batches):
                        rest = batches[:at] + batches[at + 1:]
                        for fewer in itertools.combinations(one, len(one) - 1):
                            self.assertNotIn(goal, helper.reached(states, start, rest + (fewer,)))

    def test_by_hand(self):
        self.assertEqual(least_batches(goal=lot("ab"), start=(), book=FREE), (lots("a b"),))
        self.assertEqual(least_batches(FREE, lot("ab"), lot("a")), ((),))
        self.assertEqual(least_batches(FREE, (), ()), ((),))
        two = Rulebook(lot("abc"), [("table", lot("abc"), lots("- ab abc c"))])
        self.assertEqual(least_batches(two, (), lot("abc")), (lots("ab c"),))
        both = Rulebook(lot("ab"), [("table", lot("ab"), lots("- ab"))])
        self.assertEqual(least_batches(both, (), lot("ab")), (lots("ab"),))


class WeightTest(unittest.TestCase):
    def test_lots(self):
        self.assertEqual(lots_up_to(CLASH, [2, 3, 4], 5), lots("ab c"))
        self.assertEqual(lots_up_to(limit=1, weights=(2, 3, 4), book=CLASH), ())
        self.assertEqual(lots_up_to(CLASH, (0, 0, 1), 0), lots("ab"))
        self.assertEqual(lots_up_to(CLASH, (1, 1, 1), 0), ())
        self.assertEqual(lots_up_to(CLASH, (1000000,) * 3, 10000000), lots("abc"))
        chance = random.Random(740)
        for _ in range(60):
            weights = [chance.randrange(6) for _ in range(4)]
            limit = chance.randrange(14)
            light = [one for one in helper.all_lots("abcd")[1:] if self.weigh(weights, one) <= limit]
            self.assertEqual(lots_up_to(Rulebook(lot("abcd"), []), weights, limit), helper.greatest(light))

    def weigh(self, weights, started, services="abcd"):
        return sum(weights[services.index(name)] for name in started)

    def heaviest(self, weights, plan):
        return max((self.weigh(weights, minus(plan[at], plan[at - 1])) for at in range(1, len(plan))), default=0)

    def ladder_by_words(self, states, weights, start, goal):
        """By each weight as a limit the fewest changes, from a search of its own."""
        if start == goal:
            return ((0, 0),)
        limits = sorted({self.weigh(weights, minus(b, a)) for a in states for b in states})
        numbers = {}
        for limit in limits:
            light = [one for one in helper.all_lots("abcd") if self.weigh(weights, one) <= limit]
            numbers[limit] = helper.reached(states, start, light).get(goal)
        rungs = []
        for many in range(1, len(states) + 1):
            enough = [limit for limit in limits if numbers[limit] is not None and numbers[limit] <= many]
            if not rungs or enough[0] < rungs[-1][1]:
                rungs.append((many, enough[0]))
        return tuple(rungs)

    def test_ladders_and_plans(self):
        chance = random.Random(741)
        found = set()
        for services, rules in BOOKS[:24] + BENDABLE[:12]:
            states = helper.allowed(services, rules)
            book = Rulebook(services, rules)
            for _ in range(4):
                weights = [chance.randrange(5) for _ in services]
                start, goal = chance.choice(states), chance.choice(states)
                told = weight_ladder(book, start, goal, weights)
                self.assertEqual(told, self.ladder_by_words(states, weights, start, goal))
                found.add(len(told))
                self.check_plans(book, states, weights, start, goal, told)
        self.assertLessEqual({1, 2, 3}, found)

    def check_plans(self, book, states, weights, start, goal, ladder):
        for many in (1, 2, 3, 5, 12):
            plan = weight_plan(book, start, goal, weights, many)
            self.assertIs(type(plan), tuple)
            self.assertTrue(set(plan) <= set(states))
            self.assertEqual((plan[0], plan[-1]), (start, goal))
            self.assertLessEqual(len(plan) - 1, many)
            least = [weight for number, weight in ladder if number <= many][-1]
            self.assertEqual(self.heaviest(weights, plan), least)
            if helper.is_bendable(states):
                self.assertTrue(all(part(plan[at], plan[at + 1]) for at in range(1, len(plan) - 2)), plan)
                self.assertLessEqual(ladder[-1][0], 4)

    def test_by_hand(self):
        free = Rulebook(lot("abc"), [])
        self.assertEqual(weight_ladder(free, (), lot("abc"), [3, 2, 2]), ((1, 7), (2, 4), (3, 3)))
        self.assertEqual(weight_ladder(weights=(0, 0, 0), goal=lot("abc"), start=(), book=free), ((1, 0),))
        self.assertEqual(weight_ladder(free, lot("a"), lot("a"), [1, 1, 1]), ((0, 0),))
        self.assertEqual(weight_ladder(free, lot("ab"), lot("a"), [1, 1, 1]), ((1, 0),))
        self.assertEqual(weight_plan(free, lot("a"), lot("a"), [1, 1, 1], 3), lots("a"))
        self.assertEqual(weight_plan(many=1, weights=[1, 1, 1], goal=lot("abc"), start=(), book=free), lots("- abc"))
        self.assertEqual(len(weight_plan(free, (), lot("abc"), [1, 1, 1], 12)), 4)
        self.assertEqual(weight_ladder(TORN, lot("a"), lot("b"), [5, 7]), ((1, 7),))

    def test_stops_of_plans(self):
        """In a bendable rulebook, where a plan that is found first may stop something on the way."""
        chance = random.Random(742)
        stops = 0
        for services, rules in BENDABLE:
            states = helper.allowed(services, rules)
            book = Rulebook(services, rules)
            for start, goal in itertools.product(states, repeat=2):
                plan = weight_plan(book, start, goal, [chance.choice((1, 1, 1, 2)) for _ in services], 6)
                self.assertTrue(all(part(plan[at], plan[at + 1]) for at in range(1, len(plan) - 2)), plan)
                stops += len(plan) > 3 and not part(start, plan[1])
        self.assertGreater(stops, 2)


class ErrorTest(unittest.TestCase):
    def test_states_come_first(self):
        asks = (
            (1, lambda state, rest: marks_back(CLASH, state, rest, 2)),
            (1, lambda state, rest: marks_on(CLASH, state, rest, 2)),
            (2, lambda one, two, rest: least_marks(CLASH, one, two, 2)),
            (2, lambda one, two, rest: least_batches(CLASH, one, two)),
            (2, lambda one, two, rest: weight_ladder(CLASH, one, two, rest)),
            (2, lambda one, two, rest: weight_plan(CLASH, one, two, rest, 2)),
        )
        for many, ask in asks:
            for odd in helper.ODD_VALUES + (["a"], lot("az"), Weird(), (Weird(),)):
                self.assertEqual(raised(ask, *[odd] * many, None), (InvalidState, 0), repr(odd))
                if many == 2:
                    self.assertEqual(raised(ask, lot("ab"), odd, None), (InvalidState, 1), repr(odd))
            self.assertEqual(raised(ask, *[lot("ab")] * many, None), (NotAllowed, 0))
            if many == 2:
                self.assertEqual(raised(ask, lot("a"), lot("ab"), None), (NotAllowed, 1))

    def test_not_bendable(self):
        for ask in (lambda: least_marks(TORN, lot("a"), lot("a"), 2), lambda: least_batches(TORN, lot("a"), lot("b"))):
            self.assertEqual(raised(ask), (NotBendable,))
        self.assertEqual(raised(least_marks, TORN, lot("a"), (), 2), (NotAllowed, 1))
        self.assertEqual(raised(least_batches, TORN, lot("a"), ()), (NotAllowed, 1))

    def test_marks(self):
        asks = (lambda marks: marked_slots(CLASH, marks, 2), lambda marks: marks_back(CLASH, lot("a"), marks, 2),
                lambda marks: marks_on(CLASH, lot("a"), marks, 2))
        good = (("a", 0), ("b", 1))
        for ask in asks:
            for odd in (None, True, 0, "ab", [], list(good), {}, Weird(), object()):
                self.assertEqual(raised(ask, odd), (InvalidQuestion, 0), repr(odd))
            wrong = (None, "a0", ("a",), ("a", 2), ("a", -1), ("a", True), ("a", False), ("z", 0), (b"a", 0), ("a", 1.0),
                     ["a", 1], ("a", 0, 0), ("a", None), (Weird(), 0), ("a", Weird()), Weird(), (("a",), 0), ("", 0))
            for odd in wrong:
                self.assertEqual(raised(ask, (odd, None)), (InvalidQuestion, 0), repr(odd))
                self.assertEqual(raised(ask, good + (odd, None)), (InvalidQuestion, 2), repr(odd))
            self.assertEqual(raised(ask, (("b", 1), ("a", 0))), (InvalidQuestion, 1))
            self.assertEqual(raised(ask, good + (("b", 1),)), (InvalidQuestion, 2))
            self.assertEqual(raised(ask, good + (("b", 0),)), (InvalidQuestion, 2))
        self.assertIsNone(raised(marked_slots, CLASH, good, 2))
        self.assertEqual(raised(marked_slots, CLASH, (("a", 0),), 0), (InvalidQuestion, 0))

    def test_weights(self):
        asks = (lambda weights: lots_up_to(CLASH, weights, 1),
                lambda weights: weight_ladder(CLASH, lot("a"), lot("a"), weights),
                lambda weights: weight_plan(CLASH, lot("a"), lot("b"), weights, 2))
        for ask in asks:
            for odd in (None, True, 3, "abc", {}, {1, 2, 3}, Weird(), object()):
                self.assertEqual(raised(ask, odd), (InvalidQuestion, 0), repr(odd))
            for odd in (None, True, False, -1, 1.0, "1", (1,), Weird()):
                self.assertEqual(raised(ask, [odd, None, 1]), (InvalidQuestion, 0), repr(odd))
                self.assertEqual(raised(ask, (0, 1, odd)), (InvalidQuestion, 2), repr(odd))
                self.assertEqual(raised(ask, (0, odd)), (InvalidQuestion, 1), repr(odd))
                self.assertEqual(raised(ask, (0, 1, 2, 3, odd)), (InvalidQuestion, 4), repr(odd))
            for weights in ([], [1], (1, 2), (1, 2, 3, 4), [0] * 9):
                self.assertEqual(raised(ask, weights), (InvalidQuestion, 3))
            self.assertIsNone(raised(ask, [0, 1000000, 5]))

    def test_marks_make_slots_that_can_be_kept(self):
        book = CLASH
        marks = (("b", 0), ("c", 1))
        plan = slot_plan(book, lot("a"), lot("bc"), marked_slots(book, marks, 2))
        self.assertIsNone(wrong_slot(book, plan, marked_slots(book, marks, 2)))


if __name__ == "__main__":
    unittest.main()
