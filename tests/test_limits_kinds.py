"""[3] for chapters 6 to 8: answers in good time at the limits, with far more time given here than they need."""

import itertools
import random
import time
import unittest

from stopsfirst.costs import Cost, even_middles, lids_of, steep_changes, under, uneven
from stopsfirst.court import is_bendable
from stopsfirst.derived import derive, is_step_of, step_kind, step_middle, step_services, step_states
from stopsfirst.islands import centers, descent_kind, direct_pairs, final_changes, islands
from stopsfirst.kinds import harm, need_harm, open_pair, rule_open_pair
from stopsfirst.lids import bend_under, bent_front, bent_lid, front, ladder, least_lid, lid_holds
from stopsfirst.longways import long_book, long_row
from stopsfirst.rulebooks import Rulebook
from stopsfirst.shapes import join_fault, meet_fault, refuting, singles
from stopsfirst.words import is_pair_paper, is_source_paper, misfit, pair_paper, source_paper
from tests import helper
from tests.helper import lot
from tests.test_limits import SECONDS, SIX, TEN, heavy_rules

EVERY = helper.all_lots(SIX)
ONES = tuple((name,) for name in SIX)
BATCHES = [told for told in EVERY if len(told) == 2][:12]


def books():
    chance = random.Random(541)
    yield Rulebook(SIX, [])
    yield Rulebook(SIX, heavy_rules(SIX, 30))
    yield Rulebook(SIX, [("cap", [(name, 1) for name in SIX], 3)] * 30)
    yield Rulebook(SIX, [("table", SIX, [state for state in EVERY if chance.random() < 0.8])])
    yield Rulebook(SIX, [("table", SIX, EVERY)] * 30)


def costs():
    chance = random.Random(542)
    rows = tuple((told, chance.randrange(-1000000, 1000001)) for told in EVERY)
    few = tuple((told, chance.randrange(2)) for told in EVERY)
    ends = tuple((x, y, 1000000) for x, y in itertools.combinations(SIX, 2))
    wide = tuple((name, 1000000) for name in SIX)
    forms = [("told", rows), ("told", few), ("sum", wide), ("cut", ends), ("peak", wide, wide),
             ("most", (("told", rows), ("cut", ends), ("told", few), ("peak", (), wide))), ("sum", ())]
    return [Cost(SIX, form) for form in forms]


class LimitTest(unittest.TestCase):
    def setUp(self):
        self.began = time.perf_counter()

    def tearDown(self):
        self.assertLess(time.perf_counter() - self.began, SECONDS)

    def test_long_rows(self):
        for number in range(1, 6):
            self.assertEqual(len(long_book(number).states()), len(long_row(number)))

    def test_islands(self):
        for book in [*books(), long_book(3)]:
            for batches in (None, (), ONES, BATCHES):
                found = islands(book, batches)
                self.assertEqual(sum(len(island) for island in found), len(book.states()))
                self.assertEqual(len(centers(book, batches, SIX[:3])), len(found))
                for upper, lower in direct_pairs(book, batches)[:5]:
                    self.assertIn(len(descent_kind(book, batches, upper, lower)), (2,))
                plan = [book.states()[-1], book.states()[0]] * 100
                if batches is None:
                    self.assertEqual(final_changes(book, plan, batches), ())

    def test_final_changes_of_long_plans(self):
        book = Rulebook(TEN, [])
        plan = [TEN[:10 - at // 20] for at in range(200)]
        self.assertEqual(final_changes(book, plan, ()), tuple(range(19, 180, 20)))

    def test_kinds(self):
        for book in books():
            for word in ("meet", "join", "either"):
                self.assertIn(type(open_pair(book, word)), (tuple, type(None)))
                for rule in book.rules:
                    self.assertIn(type(rule_open_pair(SIX, rule, word)), (tuple, type(None)))
            told = need_harm(book)
            self.assertIs(told is None, open_pair(book, "either") is None)

    def test_harm_of_five_services(self):
        chance = random.Random(543)
        five = SIX[:5]
        rules = heavy_rules(five, 5) + [("table", five, helper.all_lots(five))]
        rules += [("table", five, [state for state in helper.all_lots(five) if chance.random() < 0.97]) for _ in range(20)]
        for rule in rules:
            self.assertIn(type(harm(five, rule)), (tuple, type(None)))
        self.assertIsNone(harm(five, ("table", five, helper.all_lots(five))))

    def test_words(self):
        for book in books():
            paper = source_paper(book)
            self.assertIs(is_source_paper(book, paper), True)
            self.assertIs(misfit(book, SIX) is None, open_pair(book, "join") is None)
            if paper[0] == "sources":
                self.assertIsNone(misfit(book, paper[1]))
        ends = list(itertools.combinations(SIX, 2))[:14]
        for rules in ([("imply", pair, ()) for pair in ends] * 2, [("imply", (), pair) for pair in ends],
                      [("imply", pair[:1], pair[1:]) for pair in ends] + [("imply", (), "ab"), ("imply", "ac", ())]):
            book = Rulebook(SIX, [(rule[0], tuple(rule[1]), tuple(rule[2])) for rule in rules])
            paper = pair_paper(book)
            self.assertIs(is_pair_paper(book, paper), True)
            self.assertEqual(paper[0], "sources" if is_bendable(book) else "torn")

    def test_twelve_steps(self):
        step = ("led", SIX, heavy_rules(SIX, 30)[4:5], SIX)
        if misfit(Rulebook(SIX, step[2]), SIX) is not None:
            step = ("led", SIX, (), ())
        whole = ("led", SIX, (), ())
        for at in range(11):
            step = (("small", step, tuple(EVERY[:12])), ("great", step, tuple(EVERY[-12:])), ("mirror", step),
                    ("between", step, (), SIX))[at % 4]
            whole = ("needs", whole, tuple(itertools.permutations(SIX[:at % 3 + 1], 2)))
        for told in (step, whole):
            self.assertEqual(step_services(told), SIX)
            states = step_states(told)
            self.assertIn(step_kind(told), ("meet", "join", "either", "any"))
            self.assertTrue(is_step_of(told, Rulebook(SIX, [("table", SIX, states)])))
            for state in states:
                self.assertIn(step_middle(told, state, states[-1]), states)

    def test_six_steps_beside_each_other(self):
        step = ("led", SIX[:1], (), ())
        for name in SIX[1:]:
            step = ("beside", ("led", (name,), (), ()), step)
        self.assertEqual(step_states(step), tuple(EVERY))
        self.assertEqual(step_middle(step, SIX, ()), ())
        for book in books():
            told = derive(book)
            self.assertIs(told is not None and is_step_of(told, book), told is not None)

    def test_costs(self):
        for book in books():
            for cost in costs():
                three = [cost, costs()[0], costs()[1]]
                for told in ([cost], three):
                    self.assertIs(steep_changes(book, told) == (), uneven(book, told) is None)
                    state = book.states()[-1]
                    self.assertEqual(even_middles(book, told, state, state), (state,))
                    lower = under(book, told, lids_of(told, book.states()))
                    self.assertEqual(lower.states(), book.states())

    def test_shapes(self):
        for cost in costs():
            self.assertIs(refuting(cost, "meets") is None, meet_fault(cost) is None)
            self.assertIs(refuting(cost, "joins") is None, join_fault(cost) is None)
            self.assertIs(refuting(cost, "bendable") is None, singles(cost)[0] == "single")

    def test_lids(self):
        for book in books():
            for cost in costs():
                for batches in (None, ONES, BATCHES):
                    s, t = book.states()[0], book.states()[-1]
                    told = least_lid(book, cost, batches, s, t)
                    self.assertIs(lid_holds(book, cost, batches, s, t, told), True)
                    bent = bent_lid(book, cost, batches, s, t)
                    if bent is not None:
                        self.assertGreaterEqual(bent[0], told[0])
                    self.assertEqual(sum(len(rung[1]) for rung in ladder(book, cost, batches, s)), len(book.states()))
                    pairs = front(book, cost, costs()[0], batches, s, t)
                    self.assertEqual(bool(pairs), told[0] is not None)
                    self.assertEqual(bool(bent_front(book, cost, costs()[0], batches, s, t)), bent is not None)

    def test_bending_under_lids(self):
        book = Rulebook(SIX, [])
        chance = random.Random(544)
        plan = [chance.choice(EVERY) for _ in range(200)]
        wide = Cost(SIX, ("peak", tuple((name, 5) for name in SIX), ()))
        self.assertEqual(bend_under(book, [wide, wide, wide], plan).plan, tuple(plan))
        self.assertEqual(len(lids_of(costs()[:3], plan)), 3)


if __name__ == "__main__":
    unittest.main()
