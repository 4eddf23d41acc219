"""[3] for chapters 11 to 14: answers in good time at the limits, with far more time given here than they need."""

import itertools
import random
import time
import unittest

from stopsfirst.court import is_bendable
from stopsfirst.hidden import (
    copied, fixed, freed, guarded, hidden, is_kernel, kernel, lifted, lifts, outside,
)
from stopsfirst.joined import (
    Blocks, block_plan, block_stuck, blocks_hold, free_lots, side_by_side, stuck_holds, unmixed,
)
from stopsfirst.mending import fewest_mend, least_mends, mended, remedies
from stopsfirst.menus import fewest_rules, rules_mended, rules_tree, rules_tree_holds
from stopsfirst.others import Contest, least_states
from stopsfirst.pins import bad_between, least_pins, pin_needs, pinned
from stopsfirst.plans import wrong_change
from stopsfirst.rulebooks import Rulebook
from stopsfirst.safe import (
    bend_safely, climb_above, is_safety_evidence, safe_answer, safe_distance, safe_gap, safe_states, safety_evidence,
    stuck_least,
)
from stopsfirst.trees import mend_tree, tree_holds
from stopsfirst.windows import (
    least_batches, least_marks, lots_up_to, marked_slots, marks_back, marks_on, weight_ladder, weight_plan,
)
from tests import helper
from tests.helper import lot
from tests.test_limits import SECONDS, SIX, TEN
from tests.test_limits_kinds import BATCHES, ONES, books

FIVE = SIX[:5]
FOUR = SIX[:4]


def table_book(services, states):
    return Rulebook(services, [("table", services, states)])


def random_books(seed, services, shares=(0.2, 0.4, 0.5, 0.6, 0.8)):
    chance = random.Random(seed)
    for share in shares:
        states = [state for state in helper.all_lots(services) if chance.random() < share]
        yield table_book(services, states or [()])


class LimitTest(unittest.TestCase):
    def setUp(self):
        self.began = time.perf_counter()

    def tearDown(self):
        self.assertLess(time.perf_counter() - self.began, SECONDS)

    def test_marks_of_five_services(self):
        free = Rulebook(FIVE, [])
        self.assertEqual(len(least_marks(free, (), FIVE, 4)), 4 ** 5)
        self.assertEqual(len(least_marks(free, FIVE[:2], FIVE, 4)), 4 ** 3)
        self.assertEqual(len(least_batches(free, (), FIVE)), 1)
        row = table_book(FIVE, [FIVE[:at] for at in range(6)])
        self.assertEqual(least_batches(row, (), FIVE), (tuple((name,) for name in FIVE),))
        for book in random_books(1201, FIVE):
            if is_bendable(book):
                for start, goal in itertools.product((book.states()[0], book.states()[-1]), repeat=2):
                    self.assertTrue(least_batches(book, start, goal))
                    self.assertTrue(least_marks(book, start, goal, 4))

    def test_marks_of_twelve_slots(self):
        for services in (SIX, TEN):
            marks = tuple((name, at) for name in services for at in range(12))
            for book in (Rulebook(services, []), Rulebook(services, [("imply", ("b",), ("a",))])):
                self.assertEqual(marked_slots(book, marks, 12), ((services,),) * 12)
                self.assertEqual(marks_back(book, services, marks, 12)[0], ())
                self.assertEqual(marks_on(book, (), marks, 12)[1:], (services,) * 12)

    def test_weights(self):
        chance = random.Random(1202)
        for book in [*books(), Rulebook(TEN, []), Rulebook(TEN, [("cap", [(name, 1) for name in TEN], 7)])]:
            start, goal = book.states()[0], max(book.states(), key=len)
            weights = [chance.randrange(1000001) for _ in book.services]
            ladder = weight_ladder(book, start, goal, weights)
            self.assertEqual(ladder[0][0], 1)
            plan = weight_plan(book, start, goal, weights, 12)
            light = lots_up_to(book, weights, ladder[-1][1])
            self.assertIsNone(wrong_change(book, plan, light))
            self.assertEqual(lots_up_to(book, weights, 10000000), (book.services,))

    def test_contests_of_six_services(self):
        for book in [*books(), *random_books(1203, SIX)]:
            states = book.states()
            for batches in (None, (), ONES, BATCHES):
                for goals in ([states[0]], [states[-1]], list(states)):
                    contest = Contest(book, batches, goals)
                    self.assertEqual(len(contest.table()), len(states))
                    for state in states[::9]:
                        self.check_state(contest, state)
                    gap = safe_gap(contest)
                    self.assertIs(stuck_least(contest) is None, safe_states(contest) == states)
                    if gap is None and safe_states(contest):
                        plan = [safe_states(contest)[at % len(safe_states(contest))] for at in range(200)]
                        self.assertEqual(len(bend_safely(contest, plan).climb), 200)
            self.assertLessEqual(set(least_states(book)), set(states))

    def check_state(self, contest, state):
        word, rows = safety_evidence(contest, state)
        self.assertIs(is_safety_evidence(contest, state, (word, rows)), True)
        self.assertEqual(word, "safe" if contest.needed(state) is None else "held")
        self.assertIs(safe_distance(contest, state) is None, word == "held")
        if safe_distance(contest, state, 1000) is not None:
            self.assertIn(safe_answer(contest, state, 1000), contest.book.states())
        self.assertIn(contest.reply(state, 1000), (None, *least_states(contest.book)))
        self.assertIn(type(climb_above(contest, state)), (tuple, type(None)))

    def test_blocks_of_six_services(self):
        odd = table_book(SIX, [state for state in helper.all_lots(SIX) if len(state) % 2])
        for book in [*books(), *random_books(1204, SIX), odd]:
            told = Blocks(book)
            self.assertIs(blocks_hold(book, told.blocks, told.factors, told.witnesses()), True)
            self.assertEqual(len(free_lots(book)), 2 ** len(told.blocks))
            start, goal = book.states()[0], book.states()[-1]
            for batches in (None, (), ONES, BATCHES):
                plan, stuck = block_plan(book, start, goal, batches), block_stuck(book, start, goal, batches)
                self.assertIs(plan is None, stuck is not None)
                self.assertIs(stuck_holds(book, start, goal, batches, stuck), plan is None)
        self.assertEqual(len(Blocks(odd).witnesses()), 31)
        self.assertIsNone(unmixed(Rulebook(TEN, []), TEN[:5]))
        self.assertEqual(len(side_by_side(Rulebook(TEN[:5], []), Rulebook(TEN[5:], [])).states()), 1024)

    def test_hidden_services(self):
        for book in [*books(), *random_books(1205, SIX)]:
            for names in (SIX[:1], SIX[1:], SIX[::2]):
                told = hidden(book, names)
                plan = [told.states()[at % len(told.states())] for at in range(200)]
                ends = [lifts(book, names, plan[at])[0] for at in (0, -1)]
                self.assertEqual(len(lifted(book, names, plan, *ends)), 200)
                self.assertTrue(freed(book, names, BATCHES))
                self.assertTrue(outside(book, SIX[:1], BATCHES))
            paper = kernel(book)
            self.assertIs(is_kernel(book, paper), paper is not None)
            self.assertLessEqual(len(fixed(book, SIX[:2], SIX[4:]).states()), 4)
            self.assertEqual(len(copied(book, "a", "z").states()), len(book.states()))
            self.assertEqual(len(guarded(book, "a", "z").states()), len(book.states()))

    def test_mends_of_four_services(self):
        for book in random_books(1206, FOUR, [share / 20 for share in range(1, 20)]):
            for sort in ("add", "both", "bar"):
                keep = book.states()[:2]
                least = least_mends(book, sort, keep, 3)
                first = fewest_mend(book, sort, keep, 3)
                tree = mend_tree(book, sort, keep, 3)
                self.assertIs(first is None, least == ())
                self.assertIs(tree is None, least != ())
                self.assertIs(tree_holds(book, sort, keep, 3, tree), tree is not None)
                self.assertTrue(all(is_bendable(mended(book, mend)) for mend in least))
        every = helper.all_lots(FOUR)
        far = table_book(FOUR, [(), FOUR] + [(name,) for name in FOUR])
        self.assertTrue(remedies(table_book(FOUR, [FOUR[:2], FOUR[2:]]), FOUR[:2], FOUR[2:], "both", []))
        self.assertIn(type(fewest_mend(far, "both", every[:1], 3)), (tuple, type(None)))

    def test_barring_in_five_services(self):
        trees = 0
        for book in random_books(1207, FIVE, [share / 20 for share in range(1, 20)]):
            for keep in ((), book.states()[:4]):
                least = least_mends(book, "bar", keep, 8)
                tree = mend_tree(book, "bar", keep, 8)
                self.assertIs(tree is None, least != ())
                self.assertIs(tree_holds(book, "bar", keep, 8, tree), tree is not None)
                self.assertIs(fewest_mend(book, "bar", keep, 8) is None, least == ())
                trees += tree is not None
        self.assertGreater(trees, 5)

    def test_menus_of_six_rules(self):
        """Also where each forbidden state has a rule of its own, so that there is much to choose from."""
        chance = random.Random(1208)
        every = helper.all_lots(FIVE)
        trees = 0
        for at, book in enumerate(random_books(1209, FIVE, [share / 20 for share in range(4, 19)])):
            rules = [("table", FIVE, [one for one in every if one != state])
                     for state in every if state not in book.states()]
            states = book.states()
            menu = [("table", FIVE, [one for one in every if one not in chance.sample(states, min(2, len(states)))])
                    for _ in range(6)]
            asked = Rulebook(FIVE, (rules + rules)[:30] if at % 2 else rules[:30])
            first = fewest_rules(asked, menu, 4)
            tree = rules_tree(asked, menu, 4)
            self.assertIs(tree is None, first is not None)
            self.assertIs(rules_tree_holds(asked, menu, 4, tree), tree is not None)
            if first is not None:
                self.assertIs(is_bendable(rules_mended(asked, menu, first)), True)
            trees += tree is not None
        self.assertGreater(trees, 2)

    def test_pins_of_four_services(self):
        for book in random_books(1210, FOUR, [share / 20 for share in range(1, 20)]):
            for keep in (book.states()[:1], book.states()[-1:] * 4):
                least = least_pins(book, keep)
                self.assertIs(bad_between(book, keep) is None, least != ())
                self.assertTrue(all(is_bendable(pinned(book, *pins)) for pins in least))
                self.assertIs(pin_needs(book, keep) == (), is_bendable(book))


if __name__ == "__main__":
    unittest.main()
