"""[3] for chapters 15 and 16: answers in good time at the limits, with far more time given here than they need."""

import random
import time
import unittest

from stopsfirst.counting import balance, bent_count, climb_at, climb_number, strict_counts, weak_count
from stopsfirst.desk import Desk
from stopsfirst.evidence import is_verdict
from stopsfirst.exchanges import exchange_row, is_order_paper, order_paper, single_orders
from stopsfirst.prices import Prices
from stopsfirst.rulebooks import Rulebook
from stopsfirst.running import House
from stopsfirst.sheets import kept_sheets, sheet, sheet_holds, wrong_sheets
from stopsfirst.texts import text_of
from stopsfirst.turned import (
    bends, one_way, sides, turned_book, turned_fault, turned_locked, turned_middles,
)
from stopsfirst.turnings import every_turning, is_turning_paper, sorted_plan, turnings
from stopsfirst.works import Works
from tests import helper
from tests.test_limits import SECONDS, SIX, TEN, heavy_rules
from tests.test_limits_kinds import BATCHES, ONES, books
from tests.test_limits_others import FIVE, random_books


class LimitTest(unittest.TestCase):
    def setUp(self):
        self.began = time.perf_counter()

    def tearDown(self):
        self.assertLess(time.perf_counter() - self.began, SECONDS)

    def test_turned_services(self):
        chance = random.Random(1221)
        for book in [*books(), *random_books(1222, SIX)]:
            states = book.states()
            plan = [chance.choice(states) for _ in range(200)]
            for turned in ((), SIX, SIX[:3], SIX[::2]):
                self.assertEqual(len(turned_book(book, turned).states()), len(states))
                self.assertIs(turned_locked(book, turned) is None, bends(book, turned))
                if bends(book, turned):
                    self.assertEqual(len(one_way(book, turned, plan)), 200)
                    self.assertTrue(turned_middles(book, turned, states[0], states[-1]))
                self.assertEqual(len(sides(book, turned, states[0], states[-1])), 2)
                self.assertIsNone(turned_fault(book, turned, plan, None))
            paper = every_turning(book)
            self.assertIs(is_turning_paper(book, paper), True)
            if paper[0] == "every":
                self.assertEqual(len(sorted_plan(book, plan)), 399)

    def test_turnings_of_five_services(self):
        for book in [Rulebook(FIVE, []), *random_books(1223, FIVE)]:
            told = turnings(book)
            self.assertEqual(len(told), 32)
            self.assertIs(every_turning(book)[0] == "every", all(locked is None for _, locked in told))

    def test_counts(self):
        for book in [*books(), *random_books(1224, SIX)]:
            first, last = book.states()[0], max(book.states(), key=len)
            for batches in (None, (), ONES, BATCHES):
                counts = strict_counts(book, batches, first, last)
                for number in (0, sum(counts) - 1) if sum(counts) else ():
                    climb = climb_at(book, batches, first, last, number)
                    self.assertEqual(climb_number(book, batches, first, last, climb), number)
                self.assertGreaterEqual(bent_count(book, batches, first, last, 10 ** 9),
                                        weak_count(book, batches, first, last, 10 ** 9))
            self.assertIs(type(balance(book, first, last)), int)
        self.assertEqual(sum(strict_counts(Rulebook(SIX, []), None, (), SIX)), 4683)

    def test_orders(self):
        free = Rulebook(SIX, [])
        orders = single_orders(free, (), SIX)
        self.assertEqual(len(orders), 720)
        word, row = exchange_row(free, (), SIX, SIX[::-1])
        self.assertEqual((word, len(row)), ("row", 16))
        for book in [*books(), *random_books(1225, SIX, (0.8, 0.9, 0.95))]:
            for first, last in ((book.states()[0], book.states()[-1]), ((), SIX), ((), SIX[:3])):
                if not book.allows(first) or not book.allows(last):
                    continue
                paper = order_paper(book, first, last)
                self.assertIs(is_order_paper(book, first, last, paper), paper is not None)
                orders = single_orders(book, first, last)
                if orders:
                    self.assertIn(exchange_row(book, first, orders[0], orders[-1])[0], ("row", "apart"))
        pairs = tuple((x, y) for x in SIX for y in SIX) * 20
        self.assertIs(is_order_paper(free, (), SIX, ("pairs", pairs)), False)

    def test_works_and_sheets(self):
        chance = random.Random(1226)
        for book in [*books(), *random_books(1227, SIX)]:
            works = Works(book)
            for _ in range(10):
                works.put(helper.random_rule(chance, SIX))
                self.assertIs(is_verdict(works.current, works.verdict()), True)
                works.undo()
            self.assertEqual(len(works.trial([helper.random_rule(chance, SIX) for _ in range(10)])), 10)
            start, goal = book.states()[0], book.states()[-1]
            prices = Prices([(name, 1000000) for name in SIX], [(name, 3) for name in SIX], fee=5)
            asked = {"court": (), "rule": (("imply", SIX[:2], SIX[3:]),), "climb": (list(book.states()) * 3,),
                     "reach": (start, goal, BATCHES), "fence": (BATCHES, start, goal, SIX[1:], SIX[:5]),
                     "price": (ONES, prices, start, goal), "safe": (ONES, [goal], start)}
            values = [sheet(book, kind, asked[kind]) for kind in asked]
            self.assertTrue(all(sheet_holds(book, value) for value in values))
            self.assertEqual(wrong_sheets(book, values), ())
            self.assertEqual(kept_sheets(works, values), tuple(values))

    def test_ten_services(self):
        for rules in ([], [("cap", [(name, 1) for name in TEN], 7)], heavy_rules(TEN, 30)):
            book = Rulebook(TEN, rules)
            works = Works(book)
            lost, won = works.put(("imply", TEN[:2], ()))
            self.assertEqual((len(lost) > 0, won), (True, ()))
            self.assertEqual(works.drop(len(rules)), ((), lost))
            self.assertIs(works.undo(), True)
            house = House(book, (), tuple((name,) for name in TEN))
            self.assertEqual(house.aim(TEN[:7]), 7)
            self.assertEqual(house.step(), ("a",))
            self.assertEqual(house.others(()), 7)
            self.assertEqual(len(house.run()), 8)
            plan = [TEN[:at % 5] for at in range(200)]
            self.assertEqual(turned_fault(book, TEN[:3], plan, [()]), 3)

    def test_a_desk_with_ten_services(self):
        desk = Desk()
        desk.say("services " + " ".join(TEN))
        for line in text_of(Rulebook(TEN, heavy_rules(TEN, 30))).split("\n")[1:]:
            self.assertTrue(desk.say("rule " + line).endswith("won 0"))
        self.assertEqual(desk.say("drop 29")[:5], "lost ")
        self.assertGreater(len(desk.say("states").split(" ")), 500)
        self.assertEqual(desk.say("batches ones"), "ok")
        self.assertEqual(len(desk.say("plan - a+b+c+f").split(" > ")), 5)
        self.assertEqual(desk.say("bend - a a+b a+f"), "- > a > a+b > a+f")
        self.assertEqual(desk.say("house -"), "ok")
        self.assertEqual(desk.say("aim a+b+c+f"), "left 4")
        self.assertEqual(desk.say("step"), "a")
        self.assertEqual(len(desk.say("run").split(" > ")), 4)
        self.assertEqual(desk.say("undo"), "ok")
        self.assertTrue(desk.say("text").startswith("services a b c d e f g h i j\n"))


if __name__ == "__main__":
    unittest.main()
