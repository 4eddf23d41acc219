"""[68] to [72]: slots, each of which lets one change start something."""

import itertools
import random
import unittest

from stopsfirst.errors import InvalidBatches, InvalidState, NotAllowed, NotBendable
from stopsfirst.plans import wrong_slot
from stopsfirst.rulebooks import Rulebook
from stopsfirst.slots import (
    barring_lots, first_slot, first_time, is_slot_table, losses_borne, open_lots, slot_answer, slot_plan, slot_states,
    slot_tops,
)
from tests import helper
from tests.helper import Weird, fits, lot, lots, minus, part, raised

FREE = Rulebook(lot("ab"), [])
CLASH = Rulebook(lot("abc"), [("imply", lot("ab"), ())])
TORN = Rulebook(lot("ab"), [("table", lot("ab"), lots("a b"))])
BOOKS = [told for told in helper.random_books(681, 40) if helper.allowed(*told)]
SMALL = [told for told in helper.random_books(682, 30, "abc") if helper.allowed(*told)]
BENDABLE = helper.bendable_books(683, 30)


def schedules(books, seed, many, longest=4):
    """Rulebooks with their states, some slots, and two states."""
    chance = random.Random(seed)
    for services, rules in books:
        states = helper.allowed(services, rules)
        for _ in range(many):
            kinds = helper.random_batches(chance.random(), services, 8)
            slots = [chance.choice(kinds) if chance.random() < 0.5 else [(chance.choice(services),)]
                     for _ in range(chance.randrange(longest + 1))]
            yield Rulebook(services, rules), states, slots, chance.choice(states), chance.choice(states)


def levels_by_words(states, start, slots):
    levels = [{start}]
    for slot in slots:
        levels.append({b for b in states for a in levels[-1] if fits(slot, minus(b, a))})
    return levels


def tops_by_words(states, start, slots):
    """The greatest last states of all slot climbs, by going through them."""
    climbs = [(state,) for state in states if part(state, start)]
    tops = [helper.greatest([climb[-1] for climb in climbs])]
    for slot in slots:
        climbs = [climb + (b,) for climb in climbs for b in states
                  if part(climb[-1], b) and fits(slot, minus(b, climb[-1]))]
        climbs = list({climb[-1]: climb for climb in climbs}.values())
        tops.append(helper.greatest([climb[-1] for climb in climbs]))
    return tuple(tops)


def stops_at_the_ends(plan):
    return all(part(plan[at], plan[at + 1]) for at in range(1, len(plan) - 2))


class StatesTest(unittest.TestCase):
    def test_by_words(self):
        found = set()
        for book, states, slots, start, goal in schedules(BOOKS, 684, 8):
            levels = levels_by_words(states, start, slots)
            self.assertEqual(slot_states(book, start, slots), tuple(tuple(sorted(level)) for level in levels))
            numbers = [k for k, level in enumerate(levels) if goal in level]
            self.assertEqual(first_slot(book, start, goal, tuple(slots)), numbers[0] if numbers else None)
            found.add(numbers[0] if numbers else None)
        self.assertLessEqual({None, 0, 1, 2, 3}, found)

    def test_by_hand(self):
        self.assertEqual(slot_states(FREE, (), [[lot("a")], None]), (lots("-"), lots("- a"), lots("- a ab b")))
        self.assertEqual(slot_states(slots=(), start=lot("a"), book=FREE), (lots("a"),))
        self.assertEqual(slot_states(FREE, lot("ab"), [()]), (lots("ab"), lots("- a ab b")))
        self.assertEqual(slot_states(TORN, lot("a"), [(), [()], lots("b")]), (lots("a"), lots("a"), lots("a"), lots("a b")))
        self.assertEqual(first_slot(slots=[(), lots("a")], goal=lot("a"), start=(), book=FREE), 2)
        self.assertEqual(first_slot(FREE, lot("a"), lot("a"), []), 0)
        self.assertIsNone(first_slot(FREE, lot("a"), (), []))
        self.assertEqual(first_slot(FREE, lot("a"), (), [(), ()]), 1)


class PlanTest(unittest.TestCase):
    def check(self, book, states, slots, start, goal, plan):
        self.assertIs(type(plan), tuple)
        self.assertEqual((plan[0], plan[-1], len(plan)), (start, goal, len(slots) + 1))
        self.assertIsNone(wrong_slot(book, plan, slots))
        self.assertTrue(set(plan) <= set(states))

    def test_plans(self):
        found = set()
        for book, states, slots, start, goal in schedules(BOOKS, 685, 8):
            plan = slot_plan(book, start, goal, slots)
            self.assertIs(plan is not None, goal in levels_by_words(states, start, slots)[-1])
            found.add(plan and len(plan))
            if plan is not None:
                self.check(book, states, slots, start, goal, plan)
        self.assertEqual(found, {None, 1, 2, 3, 4, 5})

    def test_bendable_rulebooks(self):
        """Also with batches of one, where the plan that is found first often stops something on the way."""
        chance = random.Random(686)
        stops = 0
        for services, rules in BENDABLE:
            states = helper.allowed(services, rules)
            book = Rulebook(services, rules)
            for start, goal in itertools.product(states[::2], repeat=2):
                slots = [[(chance.choice(services),)] for _ in range(6)]
                plan = slot_plan(book, start, goal, slots)
                if plan is not None:
                    self.check(book, states, slots, start, goal, plan)
                    self.assertTrue(stops_at_the_ends(plan), plan)
                    stops += not part(start, goal)
        self.assertGreater(stops, 30)

    def test_by_hand(self):
        self.assertEqual(slot_plan(FREE, lot("a"), lot("a"), []), lots("a"))
        self.assertIsNone(slot_plan(FREE, lot("a"), (), []))
        self.assertEqual(slot_plan(slots=[lots("b")], goal=lot("b"), start=lot("a"), book=CLASH), lots("a b"))
        self.assertEqual(slot_plan(FREE, (), lot("ab"), [lots("a"), lots("b")]), lots("- a ab"))
        self.assertIsNone(slot_plan(FREE, (), lot("ab"), [lots("a"), lots("a")]))


class TopsTest(unittest.TestCase):
    def test_by_words(self):
        for book, states, slots, start, _ in schedules(BOOKS, 687, 8):
            self.assertEqual(slot_tops(book, start, slots), tops_by_words(states, start, slots))

    def test_what_is_reached(self):
        found = set()
        for book, states, slots, start, _ in [*schedules(BOOKS, 688, 6), *schedules(BENDABLE, 689, 6)]:
            told = slot_tops(book, start, slots)
            levels = slot_states(book, start, slots)
            for k in range(1, len(slots) + 1):
                parts = {state for state in states if any(part(state, top) for top in told[k])}
                self.assertTrue(parts <= set(levels[k]))
                if helper.is_bendable(states):
                    self.assertEqual(parts, set(levels[k]))
                else:
                    found.add(parts == set(levels[k]))
        self.assertEqual(found, {True, False})

    def test_by_hand(self):
        self.assertEqual(slot_tops(CLASH, lot("a"), [lots("b"), lots("c")]), (lots("a"), lots("a b"), lots("ac bc")))
        self.assertEqual(slot_tops(slots=[], start=lot("a"), book=TORN), (lots("a"),))
        self.assertEqual(slot_tops(TORN, lot("a"), [None]), (lots("a"), lots("a")))


class TableTest(unittest.TestCase):
    def by_words(self, states, start, slots, value):
        def covered(state, entry):
            return any(part(state, other) for other in entry)
        if len(value) != len(slots) + 1 or any(list(entry) != sorted(set(entry)) for entry in value):
            return False
        if not covered(start, value[0]):
            return False
        return all(covered(b, value[k + 1]) for k, slot in enumerate(slots) for e in value[k] for b in states
                   if fits(slot, minus(b, e)))

    def test_random_tables(self):
        chance = random.Random(690)
        found = set()
        for book, states, slots, start, _ in schedules(SMALL + BENDABLE, 691, 6, 3):
            for base in (slot_tops(book, start, slots), slot_states(book, start, slots)):
                for at in range(5):
                    value = [list(entry) for entry in base]
                    for entry in value:
                        if at and chance.random() < 0.3 and entry:
                            entry.pop(chance.randrange(len(entry)))
                        if at and chance.random() < 0.3:
                            entry.append(chance.choice(states))
                    value = tuple(tuple(sorted(set(entry))) for entry in value)
                    right = self.by_words(states, start, slots, value)
                    self.assertIs(is_slot_table(book, start, slots, value), right)
                    found.add((right, len(slots)))
                    if right:
                        for k, level in enumerate(slot_states(book, start, slots)):
                            self.assertTrue(all(any(part(state, e) for e in value[k]) for state in level))
        self.assertLessEqual({(right, many) for right in (True, False) for many in (0, 1, 2)}, found)

    def test_spoilt_values(self):
        slots = [lots("b"), lots("c")]
        good = (lots("a"), lots("a b"), lots("ac bc"))
        ask = (CLASH, lot("a"), slots)
        self.assertIs(is_slot_table(*ask, good), True)
        self.assertIs(is_slot_table(value=good, slots=slots, start=lot("a"), book=CLASH), True)
        for odd in helper.ODD_VALUES + (Weird(), (Weird(),), (), lot("ab"), lots("ab"), good[:2], good + ((),), good[::-1],
                                        list(good), (lots("a"), lots("b a"), good[2]), (lots("a a"), *good[1:])):
            self.assertIs(is_slot_table(*ask, odd), False, repr(odd))
            for at in range(3):
                told = good[:at] + (odd,) + good[at + 1:]
                self.assertIs(is_slot_table(*ask, told), helper.is_same(odd, good[at]), repr(odd))
                entry = good[at] + (odd,)
                self.assertIs(is_slot_table(*ask, good[:at] + (entry,) + good[at + 1:]), False, repr(odd))
            self.assertIs(is_slot_table(*ask, good + (odd,)), False, repr(odd))
        for value in (tuple(list(entry) for entry in good), (good[0], good[1], list(good[2])), ((), *good[1:])):
            self.assertIs(is_slot_table(*ask, value), False)
        self.assertIs(is_slot_table(FREE, lot("a"), [], (lots("ab"),)), True)
        self.assertIs(is_slot_table(FREE, lot("a"), [], (lots("b"),)), False)


class AnswerTest(unittest.TestCase):
    def test_bendable_rulebooks(self):
        found = set()
        for book, states, slots, start, goal in schedules(BENDABLE, 692, 8):
            if not slots:
                self.assertEqual(raised(slot_answer, book, start, goal, slots), (InvalidBatches, 0))
                continue
            word, told = slot_answer(book, start, goal, slots)
            self.assertEqual(word, "plan" if goal in levels_by_words(states, start, slots)[-1] else "table")
            found.add(word)
            if word == "plan":
                PlanTest().check(book, states, slots, start, goal, told)
                self.assertTrue(stops_at_the_ends(told))
            else:
                self.assertTrue(TableTest().by_words(states, start, slots, told))
                self.assertIs(is_slot_table(book, start, slots, told), True)
                self.assertFalse(any(part(goal, state) for state in told[-1]))
        self.assertEqual(found, {"plan", "table"})

    def test_errors_in_their_order(self):
        self.assertEqual(raised(slot_answer, TORN, lot("a"), lot("b"), []), (InvalidBatches, 0))
        self.assertEqual(raised(slot_answer, TORN, lot("a"), lot("b"), [None]), (NotBendable,))
        self.assertEqual(raised(slot_answer, TORN, lot("a"), lot("a"), [None]), (NotBendable,))
        self.assertEqual(raised(slot_answer, TORN, lot("a"), lot("b"), [None, 5]), (InvalidBatches, 1))
        self.assertEqual(slot_answer(slots=[()], goal=lot("b"), start=lot("a"), book=CLASH)[0], "table")


class LotTest(unittest.TestCase):
    def by_words(self, states, slots, start, goal):
        """For each lot of slots whether the goal is reached though the slots outside start nothing."""
        numbers = range(len(slots))
        found = {}
        for many in range(len(slots) + 1):
            for told in itertools.combinations(numbers, many):
                left = [slots[at] if at in told else () for at in numbers]
                found[told] = goal in levels_by_words(states, start, left)[-1]
        return found

    def least(self, found):
        return tuple(sorted(a for a in found if not any(set(b) < set(a) for b in found)))

    def test_by_words(self):
        seen = set()
        for book, states, slots, start, goal in schedules(BOOKS + BENDABLE, 693, 6):
            found = self.by_words(states, slots, start, goal)
            numbers = tuple(range(len(slots)))
            self.assertEqual(open_lots(book, start, goal, slots), self.least([told for told in found if found[told]]))
            barring = [told for told in found if not found[tuple(at for at in numbers if at not in told)]]
            self.assertEqual(barring_lots(book, start, goal, slots), self.least(barring))
            borne = [r for r in range(len(slots) + 1)
                     if all(found[tuple(at for at in numbers if at not in left)]
                            for left in itertools.combinations(numbers, r))]
            self.assertEqual(losses_borne(book, start, goal, slots), max(borne) if borne else None)
            seen.add(max(borne) if borne else None)
        self.assertLessEqual({None, 0, 1, 2, 3}, seen)

    def test_more_slots(self):
        chance = random.Random(694)
        for services, rules in BENDABLE[:12]:
            states = helper.allowed(services, rules)
            book = Rulebook(services, rules)
            slots = [[(chance.choice(services),)] for _ in range(6)]
            found = self.by_words(states, slots, states[0], states[-1])
            told = open_lots(book, states[0], states[-1], slots)
            self.assertEqual(told, self.least([lot_of for lot_of in found if found[lot_of]]))

    def test_by_hand(self):
        slots = [lots("a"), lots("b"), lots("a"), lots("b")]
        self.assertEqual(open_lots(FREE, (), lot("ab"), slots), ((0, 1), (0, 3), (1, 2), (2, 3)))
        self.assertEqual(barring_lots(FREE, (), lot("ab"), slots), ((0, 2), (1, 3)))
        self.assertEqual(losses_borne(FREE, (), lot("ab"), slots), 1)
        self.assertEqual(open_lots(slots=[], goal=(), start=(), book=FREE), ((),))
        self.assertEqual(barring_lots(slots=[], goal=(), start=(), book=FREE), ())
        self.assertEqual(losses_borne(slots=[], goal=(), start=(), book=FREE), 0)
        self.assertEqual(open_lots(FREE, (), lot("a"), []), ())
        self.assertEqual(barring_lots(FREE, (), lot("a"), []), ((),))
        self.assertIsNone(losses_borne(FREE, (), lot("a"), []))
        self.assertEqual(losses_borne(FREE, lot("a"), (), [None, (), ()]), 3)
        self.assertEqual(barring_lots(FREE, lot("a"), (), [None, (), ()]), ())
        self.assertIsNone(losses_borne(FREE, (), lot("a"), [(), lots("b")]))


class TimeTest(unittest.TestCase):
    def test_by_words(self):
        chance = random.Random(695)
        found = set()
        for book, states, slots, start, goal in schedules(BOOKS + BENDABLE, 696, 6):
            if not slots:
                continue
            begin = chance.choice((0, 1, 2, 7, 999999999))
            many = len(slots)
            turns = [slots[(begin + at) % many] for at in range(many * (len(states) + 1))]
            numbers = [k for k, level in enumerate(levels_by_words(states, start, turns)) if goal in level]
            right = begin + numbers[0] if numbers else None
            self.assertEqual(first_time(book, start, goal, slots, begin), right)
            found.add(None if right is None else min(right - begin, 5))
            if right is not None and helper.is_bendable(states):
                self.assertLessEqual(right, begin + 4 * many)
        self.assertLessEqual({None, 0, 1, 2, 3, 4}, found)

    def test_by_hand(self):
        cycle = (lots("a"), (), lots("b"))
        self.assertEqual(first_time(FREE, (), lot("ab"), cycle, 0), 3)
        self.assertEqual(first_time(FREE, (), lot("ab"), cycle, 1), 4)
        self.assertEqual(first_time(FREE, (), lot("ab"), cycle, 2), 4)
        self.assertEqual(first_time(FREE, lot("a"), (), cycle, 1), 2)
        self.assertEqual(first_time(FREE, lot("a"), lot("a"), cycle, 5), 5)
        self.assertIsNone(first_time(FREE, (), lot("ab"), [lots("a"), ()], 4))
        self.assertIsNone(first_time(FREE, (), lot("a"), [()], 0))
        self.assertEqual(first_time(begin=1000000000, cycle=[None], goal=lot("b"), start=lot("a"), book=TORN), 1000000001)
        self.assertEqual(first_time(FREE, (), lot("ab"), list(cycle), 1000000000), 1000000003)
        self.assertEqual(first_time(FREE, (), lot("a"), [lots("a")], 1000000000), 1000000001)

    def test_empty_cycles(self):
        for cycle in ([], ()):
            self.assertEqual(raised(first_time, FREE, (), (), cycle, 0), (InvalidBatches, 0))


class ErrorTest(unittest.TestCase):
    def asks(self):
        yield 1, lambda start, slots: slot_states(CLASH, start, slots)
        yield 1, lambda start, slots: slot_tops(CLASH, start, slots)
        yield 1, lambda start, slots: is_slot_table(CLASH, start, slots, None)
        for ask in (first_slot, slot_plan, slot_answer, open_lots, barring_lots, losses_borne):
            yield 2, lambda start, goal, slots, ask=ask: ask(CLASH, start, goal, slots)
        yield 2, lambda start, goal, cycle: first_time(CLASH, start, goal, cycle, 0)

    def test_states_then_slots(self):
        for many, ask in self.asks():
            for odd in helper.ODD_VALUES + (["a"], lot("az"), Weird(), (Weird(),)):
                self.assertEqual(raised(ask, *[odd] * many, odd), (InvalidState, 0), repr(odd))
                if many == 2:
                    self.assertEqual(raised(ask, lot("ab"), odd, odd), (InvalidState, 1), repr(odd))
                self.assertEqual(raised(ask, *[lot("a")] * many, [None, [odd], 5]), (InvalidBatches, 1), repr(odd))
            self.assertEqual(raised(ask, *[lot("ab")] * many, 5), (NotAllowed, 0))
            if many == 2:
                self.assertEqual(raised(ask, lot("a"), lot("ab"), 5), (NotAllowed, 1))
            for value in (None, True, 0, "ab", {()}, {(): 1}, Weird()):
                self.assertEqual(raised(ask, *[lot("a")] * many, value), (InvalidBatches, 0), repr(value))
                if value is not None:
                    self.assertEqual(raised(ask, *[lot("a")] * many, [None, (), value]), (InvalidBatches, 2), repr(value))


if __name__ == "__main__":
    unittest.main()
