"""[112]: the desk and its commands."""

import random
import unittest

from stopsfirst.bending import bend
from stopsfirst.desk import Desk
from stopsfirst.errors import (
    InvalidCommand, InvalidPlan, InvalidServices, InvalidState, InvalidText, NotAllowed, Refused,
)
from stopsfirst.merging import merged_plan
from stopsfirst.rulebooks import Rulebook
from stopsfirst.running import House
from stopsfirst.texts import read_book, text_of
from stopsfirst.works import Works
from tests import helper
from tests.helper import Weird, fits, lot, lots, minus, raised

WRONG = (InvalidCommand,)


def desk(*commands):
    told = Desk()
    for command in commands:
        told.say(command)
    return told


def word(state):
    return "+".join(state) or "-"


def shown(told):
    """All that a desk keeps."""
    works = None if told.works is None else (told.works.current, len(told.works), told.works.made)
    house = None if told.house is None else (told.house, told.house.state, told.house.goal, told.house.history)
    return (works, house, told.batches)


class CommandTest(unittest.TestCase):
    def test_services(self):
        told = Desk()
        self.assertEqual((told.works, told.house, told.batches), (None, None, None))
        self.assertEqual(told.say(command="services b a"), "ok")
        self.assertIsInstance(told.works, Works)
        self.assertEqual((told.works.current, len(told.works)), (Rulebook(lot("ab"), []), 0))
        told.say("rule never a")
        told.say("batches ones")
        told.say("house b")
        self.assertEqual(told.say("services abcde z"), "ok")
        self.assertEqual(told.works.current, Rulebook(("abcde", "z"), []))
        self.assertEqual((len(told.works), told.house, told.batches), (0, None, None))
        self.assertEqual(raised(told.say, "services a b a"), (InvalidServices, 2))
        self.assertEqual(raised(told.say, "services a b c d e f g h i j k"), (InvalidServices, 10))
        self.assertEqual(told.works.current.services, ("abcde", "z"))
        for command in ("services", "services A", "services a b1", "services abcdef", "services a -", "services a+b"):
            self.assertEqual(raised(told.say, command), WRONG, command)

    def test_rules(self):
        told = desk("services a b c")
        self.assertEqual(told.say("rule clash a b"), "lost 2 won 0")
        self.assertEqual(told.say("rule imply b a :"), "lost 0 won 0")
        self.assertEqual(told.say("rule cap 3 b 2 a 2"), "lost 0 won 0")
        self.assertEqual(told.say("rule table a b : , b a"), "lost 4 won 0")
        self.assertEqual(told.works.current.rules[-1], ("table", lot("ab"), ((), lot("ab"))))
        self.assertEqual(told.say("drop 0"), "lost 0 won 0")
        self.assertEqual(told.say("drop 2"), "lost 0 won 4")
        self.assertEqual(told.say("drop 0"), "lost 0 won 0")
        self.assertEqual(told.say("drop 0"), "lost 0 won 2")
        self.assertEqual(told.say("text"), "services a b c")
        for line in ("never", "need a", "nope a", "services a", "clash a z", "cap 01 a 1", "always A", "table a b : a , a",
                     "imply a", "feed 1 a 1", "never a\tb", ": a", "a"):
            self.assertEqual(raised(told.say, "rule " + line), (InvalidText, 0), line)
        self.assertEqual(raised(told.say, "rule"), WRONG)

    def test_drop(self):
        told = desk("services a b", "rule never a", "rule never b")
        for number in ("2", "10", "9999"):
            self.assertEqual(raised(told.say, "drop " + number), (Refused, 0))
        for number in ("", "00", "01", "0001", "10000", "12345", "-1", "+1", "1.0", "a", "0x1", "\u0661", "\u00b2", "1 1"):
            self.assertEqual(raised(told.say, "drop " + number), WRONG, number)
        self.assertEqual(raised(told.say, "drop"), WRONG)
        self.assertEqual(told.say("drop 1"), "lost 0 won 1")

    def test_undo(self):
        told = desk("services a", "rule never a")
        self.assertEqual(told.say("undo"), "ok")
        self.assertEqual(told.say("text"), "services a")
        self.assertEqual(told.say("undo"), "nothing")
        self.assertEqual(raised(told.say, "undo a"), WRONG)

    def test_texts_states_and_verdicts(self):
        told = desk("services a b")
        self.assertEqual(told.say("states"), "- a a+b b")
        self.assertEqual(told.say("bendable"), "yes")
        told.say("rule table a b : b , a")
        self.assertEqual(told.say("text"), "services a b\ntable a b : a , b")
        self.assertEqual(told.say("states"), "a b")
        self.assertEqual(told.say("bendable"), "no a b")
        self.assertEqual(told.works.made, 2)
        self.assertEqual(told.say("bendable"), "no a b")
        self.assertEqual(told.works.made, 2)
        told.say("rule never a")
        told.say("rule never b")
        self.assertEqual(told.say("states"), "none")
        self.assertEqual(told.say("bendable"), "yes")
        for command in ("text a", "states a", "bendable a", "states -"):
            self.assertEqual(raised(told.say, command), WRONG, command)

    def test_a_verdict_with_the_empty_state(self):
        told = desk("services a b", "rule table a b : , a b", "rule table a b : , a b")
        self.assertEqual(told.say("bendable"), "yes")
        told = desk("services a b c", "rule table a b c : a , b c")
        self.assertEqual(told.say("bendable"), "no a b+c")

    def test_batches(self):
        told = desk("services a b c")
        for command, right in (("ones", lots("a b c")), ("c a+b a+b -", lots("c ab ab -")), ("all", None), ("-", ((),)),
                               ("a", lots("a"))):
            self.assertEqual(told.say("batches " + command), "ok")
            self.assertEqual(told.batches, right)
        for command in ("batches", "batches z", "batches a z", "batches b+a", "batches a+a", "batches a+", "batches all a",
                        "batches ones ones", "batches a+-", "batches --", "batches A", "batches a,b"):
            self.assertEqual(raised(told.say, command), WRONG, command)
        self.assertEqual(told.batches, lots("a"))

    def test_services_called_all_and_ones(self):
        told = desk("services all ones z")
        told.say("batches all")
        self.assertIsNone(told.batches)
        told.say("batches ones")
        self.assertEqual(told.batches, (("all",), ("ones",), ("z",)))
        told.say("batches all all")
        self.assertEqual(told.batches, (("all",), ("all",)))
        told.say("batches ones z")
        self.assertEqual(told.batches, (("ones",), ("z",)))

    def test_plans(self):
        told = desk("services a b c", "rule clash a b")
        self.assertEqual(told.say("plan a b+c"), "a > b+c")
        told.say("batches ones")
        self.assertEqual(len(told.say("plan a b+c").split(" > ")), 3)
        self.assertEqual(told.say("plan a+c -"), "a+c > -")
        self.assertEqual(told.say("plan c c"), "c")
        told.say("batches b")
        self.assertEqual(told.say("plan a b+c"), "none")
        self.assertEqual(raised(told.say, "plan a z"), (InvalidState, 1))
        self.assertEqual(raised(told.say, "plan z z"), (InvalidState, 0))
        self.assertEqual(raised(told.say, "plan a a+b"), (NotAllowed, 1))
        for command in ("plan", "plan a", "plan a b c", "plan a b+a", "plan a > b", "plan - +"):
            self.assertEqual(raised(told.say, command), WRONG, command)

    def test_random_plans(self):
        chance = random.Random(1121)
        found = set()
        for services, rules in helper.random_books(1122, 30):
            states = helper.allowed(services, rules)
            if not states:
                continue
            lines = text_of(Rulebook(services, rules)).split("\n")[1:]
            told = desk("services " + " ".join(services), *("rule " + line for line in lines))
            self.assertEqual(told.works.current, Rulebook(services, rules))
            self.assertEqual(told.say("states"), " ".join(map(word, states)))
            batches = [chance.choice(helper.all_lots(services)) for _ in range(3)]
            told.say("batches " + " ".join(map(word, batches)))
            for _ in range(6):
                start, goal = chance.choice(states), chance.choice(states)
                numbers = helper.reached(states, start, batches)
                answer = told.say(f"plan {word(start)} {word(goal)}")
                self.assertIs(answer == "none", goal not in numbers)
                if goal in numbers:
                    plan = [lot(one.replace("+", "")) for one in answer.split(" > ")]
                    self.assertEqual((plan[0], plan[-1], len(plan) - 1), (start, goal, numbers[goal]))
                    self.assertTrue(all(fits(batches, minus(b, a)) for a, b in zip(plan, plan[1:])))
                plan = [chance.choice(states) for _ in range(chance.randrange(2, 5))]
                self.check_bend(told, plan, found)
        self.assertEqual(found, {True, False})

    def check_bend(self, told, plan, found):
        answer = told.say("bend " + " ".join(map(word, plan)))
        book = told.works.current
        has_climb = raised(bend, book, plan) is None
        self.assertEqual(answer, " > ".join(map(word, merged_plan(bend(book, plan)))) if has_climb else "no climb")
        found.add(has_climb)

    def test_bend(self):
        told = desk("services a b c d", "rule clash a b", "rule some c d")
        self.assertEqual(told.say("bend a+c b+d a+d"), "a+c > c+d > a+d")
        self.assertEqual(told.say("bend c d"), "c > d")
        told.say("rule table a b c d : c , d")
        self.assertEqual(told.say("bend c d"), "no climb")
        self.assertEqual(raised(told.say, "bend c z"), (InvalidPlan, 1))
        self.assertEqual(raised(told.say, "bend a c"), (InvalidPlan, 0))
        for command in ("bend", "bend c", "bend c > d", "bend d+c c"):
            self.assertEqual(raised(told.say, command), WRONG, command)

    def test_houses(self):
        told = desk("services a b c", "rule clash a b", "batches b c")
        self.assertEqual(told.say("house a"), "ok")
        self.assertEqual(told.house, House(told.works.current, lot("a"), lots("b c")))
        self.assertEqual(raised(told.say, "step"), (Refused, 0))
        self.assertEqual(told.say("others -"), "left none")
        self.assertEqual(told.say("aim b+c"), "left 2")
        self.assertEqual(told.say("step"), "b")
        self.assertEqual(told.say("others -"), "left 2")
        self.assertEqual(told.say("run"), "- > b > b+c")
        self.assertEqual(told.say("run"), "b+c")
        self.assertEqual(told.say("step"), "b+c")
        self.assertEqual(told.say("aim -"), "left 1")
        self.assertEqual(told.say("step"), "-")
        self.assertEqual(told.say("aim -"), "left 0")
        self.assertEqual(raised(told.say, "aim a"), (Refused, 0))
        self.assertEqual(raised(told.say, "aim z"), (InvalidState, 0))
        self.assertEqual(raised(told.say, "aim a+b"), (NotAllowed, 0))
        for state in ("z", "-", "a", "a+b"):
            self.assertEqual(raised(told.say, "others " + state), (Refused, 0))
        self.assertEqual(told.house.history, lots("a - b - b bc -"))
        self.assertEqual(raised(told.say, "house z"), (InvalidState, 0))
        self.assertEqual(raised(told.say, "house a+b"), (NotAllowed, 0))
        self.assertEqual(len(told.house.history), 7)
        for command in ("house", "house a b", "house b+a", "aim", "aim a b", "others", "others - -", "step a", "run -",
                        "aim b+a", "others +"):
            self.assertEqual(raised(told.say, command), WRONG, command)

    def test_when_the_house_is_gone(self):
        for command in ("rule never a", "drop 0", "undo", "batches all", "batches ones", "batches a", "services a b"):
            told = desk("services a b", "rule never b", "house a")
            told.say(command)
            self.assertIsNone(told.house, command)
        told = desk("services a b", "house a")
        self.assertEqual(told.say("undo"), "nothing")
        self.assertIsNone(told.house)
        told = desk("services a b", "rule never b", "house a")
        house = told.house
        for command in ("text", "states", "bendable", "plan - a", "bend - a", "aim -", "others -", "step", "run"):
            told.say(command)
            self.assertIs(told.house, house, command)
        told.say("house -")
        self.assertIsNot(told.house, house)


class WrongTest(unittest.TestCase):
    COMMANDS = ("rule never a", "drop 0", "undo", "text", "states", "bendable", "batches all", "batches ones", "batches a",
                "plan a a", "bend a a", "house a")

    def test_what_is_no_command(self):
        told = desk("services a b", "house a")
        before = shown(told)
        for command in helper.ODD_VALUES + (Weird(), "", " ", "states ", " states", "plan  a b", "plan a  b", "states\n",
                                            "\nstates", "rule never\na", "rule  never a", "rule never  a", "States",
                                            "stateful", "-", "states\t", "services  a", "rule ", "batches ", ["states"],
                                            ("states",), b"states", "step\r", "others", "plan\u00a0a b", "a b"):
            self.assertEqual(raised(told.say, command), WRONG, repr(command))
        self.assertEqual(shown(told), before)

    def test_without_works(self):
        told = Desk()
        for command in self.COMMANDS + ("aim a", "others a", "step", "run", "rule nope", "plan", "nothing"):
            self.assertEqual(raised(told.say, command), WRONG, command)
        self.assertEqual(shown(told), (None, None, None))
        for command in self.COMMANDS:
            self.assertIsNone(raised(desk("services a b", "rule never b").say, command), command)

    def test_without_a_house(self):
        told = desk("services a b")
        for command in ("aim a", "others -", "step", "run", "aim z"):
            self.assertEqual(raised(told.say, command), WRONG, command)

    def test_by_an_error_nothing_changes(self):
        told = desk("services a b c", "rule clash a b", "batches b", "house a+c", "aim a", "step")
        before = shown(told)
        for command in ("services a a", "services", "rule never z", "rule nope", "rule", "drop 1", "drop x", "undo a",
                        "batches z", "batches", "plan z a", "plan a+b a", "bend z a", "house z", "house a+b", "aim z",
                        "aim a+b", "aim b+c", "others b", "others a", "step a", "run a", "what"):
            self.assertIsNotNone(raised(told.say, command), command)
            self.assertEqual(shown(told), before, command)

    def test_texts_are_read_again(self):
        for services, rules in helper.random_books(1123, 20):
            book = Rulebook(services, rules)
            lines = text_of(book).split("\n")
            told = desk(lines[0], *("rule " + line for line in lines[1:]))
            self.assertEqual(told.say("text"), text_of(book))
            self.assertEqual(read_book(told.say("text")), book)


if __name__ == "__main__":
    unittest.main()
