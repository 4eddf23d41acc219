"""[107] and [108]: running houses."""

import random
import unittest

from stopsfirst.errors import InvalidBatches, InvalidState, NotAllowed, Refused
from stopsfirst.plans import checked_batches
from stopsfirst.rulebooks import Rulebook
from stopsfirst.running import House
from tests import helper
from tests.helper import Weird, fits, lot, lots, minus, part, proper, raised

CLASH = Rulebook(lot("abc"), [("imply", lot("ab"), ())])
BOOKS = [told for told in helper.random_books(1071, 30) if helper.allowed(*told)] + helper.bendable_books(1072, 20)
ODD_STATES = helper.ODD_VALUES + (["a"], lot("az"), Weird(), (Weird(),))


def left_by_words(states, batches, state, goal):
    return None if goal is None else helper.reached(states, state, batches).get(goal)


class HouseTest(unittest.TestCase):
    def test_random_days(self):
        """A state, a goal and a list of what was led to tell what the house has to tell."""
        chance = random.Random(1073)
        seen = set()
        for services, rules in BOOKS:
            states = helper.allowed(services, rules)
            batches = chance.choice(helper.random_batches(chance.random(), services, 9))
            state, goal = chance.choice(states), None
            house = House(Rulebook(services, rules), state, batches)
            history = [state]
            for _ in range(12):
                deed = chance.choice(("aim", "step", "step", "run", "others"))
                left = left_by_words(states, batches, state, goal)
                if deed == "aim":
                    asked = chance.choice(states)
                    far = left_by_words(states, batches, state, asked)
                    if far is None:
                        self.assertEqual(raised(house.aim, asked), (Refused, 0))
                    else:
                        self.assertEqual(house.aim(asked), far)
                        goal = asked
                elif deed == "others":
                    asked = chance.choice(states)
                    if proper(asked, state):
                        self.assertEqual(house.others(asked), left_by_words(states, batches, asked, goal))
                        state = asked
                        history.append(state)
                    else:
                        self.assertEqual(raised(house.others, asked), (Refused, 0))
                elif left is None:
                    self.assertEqual(raised(getattr(house, deed)), (Refused, 0))
                else:
                    way = [state]
                    while way[-1] != goal and (deed == "run" or len(way) == 1):
                        way.append(self.next_state(states, batches, way[-1], goal))
                    told = getattr(house, deed)()
                    self.assertEqual(told, tuple(way) if deed == "run" else way[-1])
                    state = way[-1]
                    history += way[1:]
                seen.add((deed, left is None, left == 0))
                self.assertEqual((house.state, house.goal, house.history), (state, goal, tuple(history)))
                self.assertEqual(house.left(), left_by_words(states, batches, state, goal))
                self.assertEqual(house.batches, checked_batches(house.book, batches))
        self.assertLessEqual({("step", True, False), ("step", False, True), ("run", False, True), ("run", True, False),
                              ("step", False, False), ("run", False, False), ("others", True, False)}, seen)

    def next_state(self, states, batches, state, goal):
        left = left_by_words(states, batches, state, goal)
        return min(t for t in states if fits(batches, minus(t, state))
                   and left_by_words(states, batches, t, goal) == left - 1)

    def test_facts(self):
        """In bendable rulebooks few changes are left; with a plan from each least state there always is one."""
        chance = random.Random(1074)
        sure = 0
        for services, rules in helper.bendable_books(1075, 40):
            states = helper.allowed(services, rules)
            batches = chance.choice(([(name,) for name in services], [lot("ab"), lot("cd")], None))
            goal = chance.choice(states)
            house = House(Rulebook(services, rules), chance.choice(states), batches)
            if any(goal not in helper.reached(states, low, batches) for low in helper.least(states)):
                continue
            sure += 1
            house.aim(goal)
            for _ in range(10):
                self.assertIsNotNone(house.left())
                self.assertLessEqual(house.left(), len(services))
                below = [low for low in states if proper(low, house.state)]
                if below and chance.random() < 0.4:
                    house.others(chance.choice(below))
                else:
                    house.step()
        self.assertGreater(sure, 10)

    def test_by_hand(self):
        house = House(batches=lots("b c"), state=lot("a"), book=CLASH)
        self.assertIs(house.book, CLASH)
        self.assertEqual((house.state, house.goal, house.history, house.batches), (lot("a"), None, lots("a"), lots("b c")))
        self.assertIsNone(house.left())
        self.assertEqual(house.aim(goal=lot("bc")), 2)
        self.assertEqual(house.step(), lot("ac"))
        self.assertEqual(house.others(state=()), 2)
        self.assertEqual(house.run(), lots("- b bc"))
        self.assertEqual(house.history, lots("a ac - b bc"))
        self.assertEqual((house.step(), house.run(), house.left()), (lot("bc"), lots("bc"), 0))
        self.assertEqual(house.history, lots("a ac - b bc"))
        self.assertEqual(raised(house.aim, lot("a")), (Refused, 0))
        self.assertEqual((house.goal, house.left()), (lot("bc"), 0))

    def test_goals_that_cannot_be_reached_any_more(self):
        house = House(CLASH, lot("ac"), ())
        self.assertEqual(house.aim(lot("a")), 1)
        self.assertIsNone(house.others(lot("c")))
        self.assertEqual((house.goal, house.left()), (lot("a"), None))
        for deed in (house.step, house.run):
            self.assertEqual(raised(deed), (Refused, 0))
        self.assertEqual(house.history, lots("ac c"))
        self.assertEqual(house.aim(()), 1)

    def test_without_a_goal(self):
        house = House(CLASH, lot("ac"), None)
        for deed in (house.step, house.run):
            self.assertEqual(raised(deed), (Refused, 0))
        self.assertIsNone(house.others(()))
        self.assertEqual(house.history, lots("ac -"))

    def test_batches_stay(self):
        batches = [lot("b"), lot("bc"), ()]
        house = House(CLASH, lot("a"), batches)
        batches.clear()
        self.assertEqual(house.batches, lots("bc"))
        self.assertEqual(house.aim(lot("bc")), 1)
        self.assertIsNone(House(CLASH, (), None).batches)

    def test_errors(self):
        for odd in ODD_STATES:
            self.assertEqual(raised(House, CLASH, odd, 5), (InvalidState, 0), repr(odd))
            self.assertEqual(raised(House, CLASH, (), [(), odd, 5]), (InvalidBatches, 1), repr(odd))
        self.assertEqual(raised(House, CLASH, lot("ab"), 5), (NotAllowed, 0))
        for odd in (True, 0, "ab", {()}, Weird()):
            self.assertEqual(raised(House, CLASH, (), odd), (InvalidBatches, 0), repr(odd))
        house = House(CLASH, lot("ac"), ())
        house.aim(lot("a"))
        for odd in ODD_STATES:
            self.assertEqual(raised(house.aim, odd), (InvalidState, 0), repr(odd))
            self.assertEqual(raised(house.others, odd), (Refused, 0), repr(odd))
        self.assertEqual(raised(house.aim, lot("ab")), (NotAllowed, 0))
        for state in lots("ab ac b bc abc"):
            self.assertEqual(raised(house.others, state), (Refused, 0))
        self.assertEqual((house.state, house.goal, house.history), (lot("ac"), lot("a"), lots("ac")))
        self.assertTrue(part(house.goal, house.state))


if __name__ == "__main__":
    unittest.main()
