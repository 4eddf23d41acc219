"""[109] to [111]: sheets, which keep answers with their questions."""

import copy
import itertools
import random
import unittest

from stopsfirst.derived import derive, is_step_of
from stopsfirst.errors import (
    InvalidBatches, InvalidPlan, InvalidQuestion, InvalidRule, InvalidState, NotAllowed, Refused,
)
from stopsfirst.evidence import is_verdict
from stopsfirst.losses import fence_holds, lies_under
from stopsfirst.others import Contest
from stopsfirst.potentials import is_cheapest_evidence
from stopsfirst.prices import Prices
from stopsfirst.primes import is_follow_paper
from stopsfirst.reach import shows_unreached
from stopsfirst.rulebooks import Rulebook
from stopsfirst.safe import is_safety_evidence
from stopsfirst.searching import shows_no_climb
from stopsfirst.sheets import kept_sheets, sheet, sheet_holds, wrong_sheets
from stopsfirst.works import Works
from tests import helper
from tests.helper import Weird, fits, lot, lots, minus, part, raised

CLASH = Rulebook(lot("abc"), [("imply", lot("ab"), ())])
TORN = Rulebook(lot("ab"), [("table", lot("ab"), lots("a b"))])
PRICES = Prices([("a", 2), ("b", 1)], [("c", 1)], fee=1)
KINDS = ("court", "rule", "climb", "reach", "kinds", "fence", "price", "safe")
BOOKS = [told for told in helper.random_books(1091, 30, "abc") if helper.allowed(*told)]
BOOKS += helper.bendable_books(1092, 12, "abc")


def questions(chance, services, states):
    """One question for each kind, with lists wherever they may stand."""
    batches = copy.deepcopy(chance.choice(helper.random_batches(chance.random(), services, 9)))
    start, goal = chance.choice(states), chance.choice(states)
    every = helper.all_lots(services)
    xs = chance.choice(every)
    rule = ["imply", list(xs), [name for name in services if name not in xs and chance.random() < 0.5]]
    limits = (chance.choice(every), chance.choice(every))
    prices = Prices([(name, chance.randrange(3)) for name in services], [("a", 1)], fee=chance.randrange(2))
    plan = [chance.choice(states) for _ in range(chance.randrange(1, 5))]
    return {
        "court": (), "rule": (rule,), "climb": (plan,), "reach": (start, goal, batches), "kinds": (),
        "fence": (batches, start, goal, *limits), "price": (batches, prices, start, goal),
        "safe": (batches, [goal, chance.choice(states), goal], start),
    }


def is_plan(states, plan, start, goal, batches, stops=None, starts=None):
    if type(plan) is not tuple or not plan or any(state not in states for state in plan):
        return False
    if (plan[0], plan[-1]) != (start, goal):
        return False
    for a, b in zip(plan, plan[1:]):
        if not fits(batches, minus(b, a)):
            return False
        if stops is not None and not (part(minus(a, b), stops) and part(minus(b, a), starts)):
            return False
    return True


def holds_by_table(book, states, kind, question, value):
    """What the table of [109] says, for a question that can be asked; `value` is not of a wholly other kind."""
    if kind == "court":
        return is_verdict(book, value)
    if kind == "rule":
        return is_follow_paper(book, question[0], value)
    if kind == "kinds":
        return raised(is_step_of, value, book) is None and is_step_of(value, book)
    if kind == "price":
        return is_cheapest_evidence(book, *question, value)
    if kind == "safe":
        return is_safety_evidence(Contest(book, question[0], question[1]), question[2], value)
    word, told = value
    if kind == "climb":
        if word == "climb":
            return helper.is_climb(states, question[0], told)
        return word == "layers" and shows_no_climb(book, question[0], told)
    if kind == "reach":
        if word == "plan":
            return is_plan(states, told, *question)
        return word == "closed" and shows_unreached(book, *question, told)
    batches, start, goal, stops, starts = question
    if word == "plan":
        return is_plan(states, told, start, goal, batches, stops, starts)
    return (word == "fence" and fence_holds(book, batches, start, stops, starts, told)
            and not lies_under(goal, told, stops))


class SheetTest(unittest.TestCase):
    def test_all_kinds(self):
        chance = random.Random(1093)
        found = set()
        for services, rules in BOOKS:
            states = helper.allowed(services, rules)
            book = Rulebook(services, rules)
            for kind, question in itertools.chain(*(questions(chance, services, states).items() for _ in range(3))):
                if kind == "rule" and set(question[0][1]) & set(question[0][2]):
                    continue
                if kind == "kinds" and derive(book) is None:
                    self.assertEqual(raised(sheet, book, kind, question), (Refused, 2))
                    found.add((kind, None))
                    continue
                told = sheet(book, kind, question)
                self.assertIs(type(told), tuple)
                self.assertEqual(told[:2], (kind, question))
                self.assertTrue(holds_by_table(book, states, kind, question, told[2]))
                self.assertIs(sheet_holds(book, told), True)
                self.assertIs(sheet_holds(value=told, book=book), True)
                found.add((kind, told[2][0] if type(told[2][0]) is str else told[2][0] is None))
        right = {("court", "steps"), ("court", "locked"), ("rule", "prime"), ("rule", "state"), ("climb", "climb"),
                 ("climb", "layers"), ("reach", "plan"), ("reach", "closed"), ("kinds", "led"), ("kinds", None),
                 ("fence", "plan"), ("fence", "fence"), ("price", False), ("price", True), ("safe", "safe"),
                 ("safe", "held")}
        self.assertLessEqual(right, found)

    def test_values_of_other_questions(self):
        """Each value with each question of its kind: it holds just if the table says so."""
        chance = random.Random(1094)
        found = set()
        for services, rules in BOOKS[::2]:
            states = helper.allowed(services, rules)
            book = Rulebook(services, rules)
            asked = [questions(chance, services, states) for _ in range(5)]
            for kind in KINDS:
                values = [sheet(book, kind, told[kind])[2] for told in asked
                          if raised(sheet, book, kind, told[kind]) is None]
                for value, told in itertools.product(values, asked):
                    if kind == "rule" and raised(is_follow_paper, book, told[kind][0], None):
                        self.assertIs(sheet_holds(book, (kind, told[kind], value)), False)
                        continue
                    right = holds_by_table(book, states, kind, told[kind], value)
                    self.assertIs(sheet_holds(book, (kind, told[kind], value)), right)
                    found.add((kind, right))
        self.assertLessEqual({(kind, True) for kind in KINDS}, found)
        self.assertLessEqual({(kind, False) for kind in KINDS if kind not in ("court", "kinds")}, found)

    def test_unlike_words_never_both_hold(self):
        chance = random.Random(1095)
        for services, rules in BOOKS:
            states = helper.allowed(services, rules)
            book = Rulebook(services, rules)
            for _ in range(4):
                batches, start, goal, stops, starts = questions(chance, services, states)["fence"]
                plans = [tuple(chance.choice(states) for _ in range(n)) for n in (1, 2, 3) for _ in range(6)]
                fences = [tuple(sorted({chance.choice(states) for _ in range(n)})) for n in (1, 2, 4, 8)]
                values = [("plan", plan) for plan in plans] + [("fence", fence) for fence in fences]
                values += [("closed", fence) for fence in fences]
                for kind, question in (("fence", (batches, start, goal, stops, starts)), ("reach", (start, goal, batches))):
                    words = {value[0] for value in values if sheet_holds(book, (kind, question, value))}
                    self.assertLess(len(words), 2)

    def test_by_hand(self):
        self.assertEqual(sheet(question=(lot("a"), lot("b"), None), kind="reach", book=TORN),
                         ("reach", (lot("a"), lot("b"), None), ("plan", lots("a b"))))
        self.assertEqual(sheet(TORN, "reach", (lot("a"), lot("b"), ()))[2], ("closed", lots("a")))
        self.assertEqual(sheet(TORN, "climb", (lots("a b"),))[2][0], "layers")
        self.assertEqual(sheet(TORN, "court", ())[2], ("locked", lots("a b")))
        self.assertEqual(sheet(TORN, "price", ((), PRICES, lot("a"), lot("b")))[2], (None, ((lot("a"), 0),)))
        self.assertEqual(raised(sheet, TORN, "kinds", ()), (Refused, 2))
        self.assertEqual(sheet(TORN, "safe", ((), [lot("b")], lot("a")))[2], ("held", ((lot("a"), 0),)))

    def test_lists_are_copied(self):
        batches = [lot("b"), lot("c")]
        plan = [lot("a"), lot("b")]
        rule = ["imply", ["a"], ["b"]]
        goals = [lot("a")]
        told = [sheet(CLASH, "reach", (lot("a"), lot("b"), batches)), sheet(CLASH, "climb", (plan,)),
                sheet(CLASH, "rule", (rule,)), sheet(CLASH, "safe", (batches, goals, ())),
                sheet(CLASH, "price", (batches, PRICES, (), lot("b")))]
        before = copy.deepcopy([(kind, list(question)[:1], value) for kind, question, value in told])
        for passed in (batches, plan, rule[1], rule, goals):
            passed.append("spoilt")
        self.assertEqual([(kind, list(question)[:1], value) for kind, question, value in told], before)
        self.assertEqual(told[0][1][2], [lot("b"), lot("c")])
        self.assertEqual(told[2][1], (["imply", ["a"], ["b"]],))
        self.assertTrue(all(sheet_holds(CLASH, one) for one in told))
        self.assertIs(told[4][1][1], PRICES)

    def test_plans_in_values_are_tuples(self):
        ask = (lot("a"), lot("b"), None)
        self.assertIs(sheet_holds(CLASH, ("reach", ask, ("plan", lots("a b")))), True)
        self.assertIs(sheet_holds(CLASH, ("reach", ask, ("plan", list(lots("a b"))))), False)
        limits = (None, lot("a"), lot("b"), lot("a"), lot("b"))
        self.assertIs(sheet_holds(CLASH, ("fence", limits, ("plan", lots("a b")))), True)
        self.assertIs(sheet_holds(CLASH, ("fence", limits, ("plan", list(lots("a b"))))), False)
        self.assertIs(sheet_holds(CLASH, ("reach", (lot("a"), lot("b"), ()), ("closed", list(lots("a -"))))), True)

    def test_spoilt_sheets(self):
        chance = random.Random(1096)
        checked = 0
        for services, rules in BOOKS[:4]:
            states = helper.allowed(services, rules)
            book = Rulebook(services, rules)
            asked = questions(chance, services, states)
            asked["rule"] = (("imply", (), lot("a")),)
            for kind in KINDS:
                if raised(sheet, book, kind, asked[kind]) is not None:
                    continue
                good = sheet(book, kind, asked[kind])
                for odd in helper.ODD_VALUES + (Weird(), (Weird(),), (Weird(), Weird()), lot("az")):
                    self.assertIs(sheet_holds(book, odd), False, repr(odd))
                    self.assertIs(sheet_holds(book, (odd,) + good[1:]), False, repr(odd))
                    self.assertIs(sheet_holds(book, (kind, good[1], odd)), False, (kind, repr(odd)))
                    self.assertIs(sheet_holds(book, (kind, good[1] + (odd,), good[2])), False, repr(odd))
                    if not helper.is_same(odd, good[1]):
                        self.assertIs(sheet_holds(book, (kind, odd, good[2])), False, repr(odd))
                    for at in range(len(good[2])):
                        if not helper.is_same(odd, good[2][at]):
                            value = good[2][:at] + (odd,) + good[2][at + 1:]
                            right = kind == "kinds" and holds_by_table(book, states, kind, (), value)
                            self.assertIs(sheet_holds(book, (kind, good[1], value)), right, (kind, repr(odd)))
                            checked += 1
                for value in (list(good), good[:2], good + ((),), good[::-1], (kind.upper(),) + good[1:],
                              (kind, list(good[1]), good[2]), (kind, good[1], list(good[2]))):
                    self.assertIs(sheet_holds(book, value), False, repr(value))
        self.assertGreater(checked, 500)

    def test_questions_that_cannot_be_asked(self):
        """Each thing of a question in turn is something else; the errors are those of the functions."""
        values = {kind: sheet(CLASH, kind, question)[2] for kind, question in self.good_questions().items()}
        for kind, question in self.good_questions().items():
            for at in range(len(question)):
                for odd in helper.ODD_VALUES + (Weird(), (Weird(),), lot("az"), [lot("ab")], [5], ["a"], [["a"]]):
                    if kind == "price" and at == 1:
                        asked = question[:1] + (odd,) + question[2:]
                        self.assertIs(sheet_holds(CLASH, (kind, asked, values[kind])), False, repr(odd))
                        continue
                    asked = question[:at] + (odd,) + question[at + 1:]
                    if raised(sheet, CLASH, kind, asked) is not None:
                        self.assertIs(sheet_holds(CLASH, (kind, asked, values[kind])), False, repr(odd))

    def good_questions(self):
        return {"rule": (("imply", lot("a"), lot("c")),), "climb": (lots("a b"),), "reach": (lot("a"), lot("b"), ()),
                "fence": ((), lot("a"), lot("b"), lot("a"), lot("b")), "price": ((), PRICES, lot("a"), lot("b")),
                "safe": ((), lots("a"), lot("b"))}


class ErrorTest(unittest.TestCase):
    def test_kind_then_question(self):
        for odd in helper.ODD_VALUES + ("Court", "courts", b"court", ("court",), Weird(), object()):
            self.assertEqual(raised(sheet, CLASH, odd, None), (Refused, 0), repr(odd))
        sizes = {"court": 0, "rule": 1, "climb": 1, "reach": 3, "kinds": 0, "fence": 5, "price": 4, "safe": 3}
        for kind, size in sizes.items():
            for odd in (None, True, 0, "a" * size, [None] * size, {}, Weird(), object(), (None,) * (size + 1)):
                self.assertEqual(raised(sheet, CLASH, kind, odd), (Refused, 1), (kind, repr(odd)))
            if size:
                self.assertEqual(raised(sheet, CLASH, kind, (None,) * (size - 1)), (Refused, 1))

    def test_errors_of_the_functions(self):
        bad, odd = lot("ab"), ["a"]
        cases = (
            ("rule", (None,), (InvalidRule, 0)), ("rule", (("cap", (), 1),), (InvalidQuestion, 1)),
            ("rule", (("imply", lot("a"), lot("ab")),), (InvalidQuestion, 1)),
            ("climb", (None,), (InvalidPlan, 0)), ("climb", ([(), bad],), (InvalidPlan, 1)),
            ("reach", (odd, odd, 5), (InvalidState, 0)), ("reach", (bad, odd, 5), (InvalidState, 1)),
            ("reach", (bad, (), 5), (NotAllowed, 0)), ("reach", ((), bad, 5), (NotAllowed, 1)),
            ("reach", ((), (), 5), (InvalidBatches, 0)), ("reach", ((), (), [(), odd]), (InvalidBatches, 1)),
            ("fence", (5, odd, odd, odd, odd), (InvalidBatches, 0)), ("fence", (None, bad, odd, odd, odd), (InvalidState, 1)),
            ("fence", (None, (), bad, odd, odd), (NotAllowed, 1)), ("fence", (None, (), (), odd, odd), (InvalidQuestion, 0)),
            ("fence", (None, (), (), (), odd), (InvalidQuestion, 1)),
            ("price", ([(), odd], PRICES, odd, odd), (InvalidBatches, 1)), ("price", ((), PRICES, bad, odd), (InvalidState, 1)),
            ("price", ((), PRICES, (), bad), (NotAllowed, 1)),
            ("safe", (5, None, odd), (InvalidBatches, 0)), ("safe", ((), [], odd), (InvalidQuestion, 2)),
            ("safe", ((), [(), odd], odd), (InvalidState, 1)), ("safe", ((), [(), bad], odd), (NotAllowed, 1)),
            ("safe", ((), [()], odd), (InvalidState, 0)), ("safe", ((), [()], bad), (NotAllowed, 0)),
        )
        for kind, question, right in cases:
            self.assertEqual(raised(sheet, CLASH, kind, question), right, (kind, question))
            self.assertIs(sheet_holds(CLASH, (kind, question, None)), False)


class SheetsTest(unittest.TestCase):
    def test_wrong_and_kept(self):
        chance = random.Random(1097)
        seen = set()
        for services, rules in BOOKS[:16]:
            states = helper.allowed(services, rules)
            book = Rulebook(services, rules)
            values = [None, ("court", (), None)]
            for kind, question in questions(chance, services, states).items():
                if raised(sheet, book, kind, question) is None:
                    values.append(sheet(book, kind, question))
            chance.shuffle(values)
            self.assertEqual(wrong_sheets(book, values), tuple(sorted((values.index(None), self.at(values)))))
            works = Works(book)
            self.assertEqual(kept_sheets(works, values), tuple(v for v in values if sheet_holds(book, v)))
            works.put(helper.random_rule(chance, services))
            right = [value for value in values if sheet_holds(works.current, value)]
            self.assertEqual(kept_sheets(values=tuple(values), works=works), tuple(right))
            wrong = wrong_sheets(values=tuple(values), book=works.current)
            self.assertEqual([values[at] for at in range(len(values)) if at not in wrong], right)
            seen.add(len(right) < len(values) - 2)
        self.assertEqual(seen, {True, False})

    def at(self, values):
        return [at for at, value in enumerate(values) if value == ("court", (), None)][0]

    def test_kept_sheets_can_be_kept(self):
        batches = [lot("b")]
        value = ("reach", ((), lot("b"), batches), ("plan", lots("- b")))
        told = kept_sheets(Works(CLASH), [value])
        self.assertEqual(told, (value,))
        batches.append("spoilt")
        self.assertEqual(told, (("reach", ((), lot("b"), [lot("b")]), ("plan", lots("- b"))),))

    def test_by_hand(self):
        self.assertEqual(wrong_sheets(CLASH, []), ())
        self.assertEqual(kept_sheets(Works(CLASH), ()), ())
        self.assertEqual(wrong_sheets(CLASH, [Weird(), None, sheet(CLASH, "court", ())]), (0, 1))

    def test_errors(self):
        for odd in (None, True, 0, "ab", {}, set(), Weird(), object(), iter(())):
            self.assertEqual(raised(wrong_sheets, CLASH, odd), (InvalidQuestion, 0), repr(odd))
            self.assertEqual(raised(kept_sheets, Works(CLASH), odd), (InvalidQuestion, 1), repr(odd))


if __name__ == "__main__":
    unittest.main()
