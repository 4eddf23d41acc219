"""[3] for chapters 9 to 11: answers in good time at the limits, with far more time given here than they need."""

import itertools
import random
import time
import unittest

from stopsfirst.cheapest import (
    cheapest_merged, cheapest_plan, cheapest_three_part, least_price, least_prices, tight_changes,
)
from stopsfirst.court import is_bendable
from stopsfirst.dearer import dearer_prices
from stopsfirst.gates import (
    comes_first, first_pairs, leaning_pairs, least_blocks, least_carriers, least_gates, least_helpers, opening_plan,
    parting_plan,
)
from stopsfirst.losses import (
    fence_holds, keeps_limits, least_footprints, least_hitters, least_losses, least_starts, lies_under, limited_plan,
    limited_tops, loss_evidence, loss_of, losses_told, starts_of,
)
from stopsfirst.plans import wrong_change, wrong_slot
from stopsfirst.potentials import cheapest_evidence, is_cheapest_evidence, is_plain_potential, is_potential
from stopsfirst.prices import Prices
from stopsfirst.rulebooks import Rulebook
from stopsfirst.slots import (
    barring_lots, first_slot, first_time, is_slot_table, losses_borne, open_lots, slot_answer, slot_plan, slot_states,
    slot_tops,
)
from stopsfirst.splitting import false_potential, split_plan, unsplit_pair
from tests import helper
from tests.test_limits import SECONDS, SIX, TEN
from tests.test_limits_kinds import BATCHES, EVERY, ONES, books


def prices():
    yield Prices((), ())
    yield Prices([(name, 0) for name in SIX], [(name, 0) for name in SIX], fee=0)
    yield Prices([(name, -1000000) for name in SIX], [(name, 1000000) for name in SIX], fee=1000000,
                 waits=[(name, 1000000) for name in SIX])
    chance = random.Random(701)
    yield Prices([(name, chance.randrange(-9, 9)) for name in SIX], [(name, chance.randrange(9, 20)) for name in SIX],
                 waits=[(name, chance.randrange(9)) for name in SIX])


class LimitTest(unittest.TestCase):
    def setUp(self):
        self.began = time.perf_counter()

    def tearDown(self):
        self.assertLess(time.perf_counter() - self.began, SECONDS)

    def test_losses(self):
        for book in books():
            start, goal = book.states()[-1], book.states()[0]
            for batches in (None, ONES, BATCHES):
                for one, other in ((start, goal), (goal, start)):
                    losses = least_losses(book, batches, one, other)
                    value = loss_evidence(book, batches, one, other)
                    self.assertIs(losses_told(book, batches, one, other, losses, value), True)
                    self.assertIs(least_starts(book, batches, one, other) == (), losses == ())
                    if is_bendable(book):
                        self.assertIs(least_footprints(book, batches, one, other) == (), losses == ())
                    plan = limited_plan(book, batches, one, other, SIX, SIX)
                    self.assertIs(plan is None, losses == ())
                    tops = limited_tops(book, batches, one, SIX[:3], SIX[2:])
                    self.assertIs(fence_holds(book, batches, one, SIX[:3], SIX[2:], tops), True)
                    self.assertIs(fence_holds(book, batches, one, SIX, SIX, book.states()), True)
                    self.assertIs(lies_under(one, book.states(), SIX), True)

    def test_losses_of_long_plans(self):
        book = Rulebook(TEN, [])
        plan = [TEN, ()] * 100
        self.assertEqual((loss_of(book, plan), starts_of(book, plan)), (TEN, TEN))
        self.assertIs(keeps_limits(book, plan, TEN, TEN[1:]), False)

    def test_hitters(self):
        pairs = [(TEN[at], TEN[at + 1]) for at in range(0, 10, 2)]
        self.assertEqual(len(least_hitters(pairs)), 32)
        self.assertEqual(len(least_hitters(list(itertools.combinations(TEN, 2)))), 10)
        self.assertEqual(len(least_hitters([told for told in EVERY if len(told) == 3])), 15)

    def test_gates(self):
        for book in books():
            start, goal = book.states()[0], book.states()[-1]
            for batches in (None, ONES, BATCHES):
                for name in SIX:
                    carriers = least_carriers(book, batches, start, name)
                    self.assertEqual(least_hitters(carriers), least_gates(book, batches, start, name))
                    plan = opening_plan(book, batches, start, name, SIX)
                    self.assertIs(plan is None, carriers == ())
                    self.assertIs(comes_first(book, batches, start, name, name), True)
                    self.assertIn(type(parting_plan(book, batches, start, name, SIX[0])), (tuple, type(None)))
                self.assertIn(type(first_pairs(book, batches, start)), (tuple,))
                self.assertIn(type(leaning_pairs(book, batches, start)), (tuple,))
                helpers = least_helpers(book, batches, start, goal)
                self.assertEqual(least_hitters(helpers), least_blocks(book, batches, start, goal))

    def test_prices(self):
        for book in books():
            for cost in prices():
                for batches in (None, ONES, BATCHES):
                    start, goal = book.states()[-1], book.states()[0]
                    told = cheapest_evidence(book, batches, cost, start, goal)
                    self.assertEqual(told[0], cheapest_plan(book, batches, cost, start, goal))
                    self.assertEqual(told[1], least_prices(book, batches, cost, start))
                    self.assertIs(is_cheapest_evidence(book, batches, cost, start, goal, told), True)
                    self.assertIs(is_potential(book, batches, cost, start, told[1]), True)
                    self.assertIs(is_plain_potential(book, batches, cost, start, told[1]), True)
                    least = least_price(book, batches, cost, start, goal)
                    self.assertIs(tight_changes(book, batches, cost, start, goal) == (), least is None)
                    for ask in (cheapest_merged, cheapest_three_part):
                        plan = ask(book, batches, cost, start, goal)
                        if plan is not None:
                            self.assertIsNone(wrong_change(book, plan, batches))
                            self.assertGreaterEqual(cost.of_plan(plan), least)

    def test_prices_of_long_plans(self):
        chance = random.Random(702)
        plan = [chance.choice(EVERY) for _ in range(200)]
        for cost in prices():
            self.assertIs(type(cost.round_trips().of_plan(plan)), int)
        book = Rulebook(SIX, [])
        self.assertIsNone(dearer_prices(book, plan, plan))
        self.assertEqual(dearer_prices(book, plan, [plan[0], plan[-1]]), Prices((), (), fee=1))
        self.assertIsNone(dearer_prices(book, [plan[0], plan[-1]], plan))

    def test_splitting(self):
        for book in [*books(), Rulebook(SIX, [("table", SIX, [told for told in EVERY if len(told) % 2])])]:
            pair = unsplit_pair(book)
            self.assertIs(false_potential(book) is None, pair is None)
            self.assertIs(false_potential(book, with_waits=True) is None, is_bendable(book))
            ends = pair or (book.states()[0], book.states()[-1])
            self.assertIs(split_plan(book, *ends) is None, pair is not None)

    def test_slots_of_six_services(self):
        chance = random.Random(703)
        for book in books():
            start, goal = book.states()[0], book.states()[-1]
            slots = [[chance.choice(EVERY) for _ in range(12)] for _ in range(12)]
            self.check_slots(book, start, goal, slots)
            self.check_slots(book, start, goal, [[(SIX[at % 6],)] for at in range(12)])
            for told in (slots[:6], [[(SIX[at],)] for at in range(6)]):
                found = open_lots(book, start, goal, told)
                self.assertEqual(losses_borne(book, start, goal, told) is None, found == ())
                self.assertIs(barring_lots(book, start, goal, told) == ((),), found == ())

    def check_slots(self, book, start, goal, slots):
        levels = slot_states(book, start, slots)
        tops = slot_tops(book, start, slots)
        self.assertEqual((len(levels), len(tops)), (len(slots) + 1,) * 2)
        self.assertIs(is_slot_table(book, start, slots, levels), True)
        plan = slot_plan(book, start, goal, slots)
        self.assertIs(plan is not None, goal in levels[-1])
        if plan is not None:
            self.assertIsNone(wrong_slot(book, plan, slots))
            self.assertLessEqual(first_slot(book, start, goal, slots), len(slots))
        if is_bendable(book):
            self.assertEqual(slot_answer(book, start, goal, slots)[0], "table" if plan is None else "plan")
            self.assertIs(is_slot_table(book, start, slots, tops), True)
        for begin in (0, 1000000000):
            told = first_time(book, start, goal, slots, begin)
            self.assertIs(told is None or begin <= told <= begin + 64 * len(slots), True)

    def test_slots_of_ten_services(self):
        chance = random.Random(704)
        book = Rulebook(TEN, [("cap", [(name, 1) for name in TEN], 8)])
        every = helper.all_lots(TEN)
        slots = [[chance.choice(every) for _ in range(12)] for _ in range(12)]
        self.check_slots(book, (), TEN[:8], slots)
        self.check_slots(book, TEN[:5], TEN[2:], [[(name,)] for name in TEN])


if __name__ == "__main__":
    unittest.main()
