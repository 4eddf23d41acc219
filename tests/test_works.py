"""[104] to [106]: rulebooks that change."""

import random
import unittest

from stopsfirst.court import is_bendable
from stopsfirst.errors import InvalidQuestion, InvalidRule, Refused
from stopsfirst.evidence import is_verdict, verdict
from stopsfirst.rulebooks import Rulebook
from stopsfirst.works import Works
from tests import helper
from tests.helper import Weird, lot, lots, raised

NEVER = ("imply", ("a",), ())
EITHER = ("imply", (), ("a", "b"))
XOR = ("table", lot("ab"), lots("a b"))
NO_RULES = (None, True, 0, "imply", (), [], ("imply",), ("imply", ("z",), ()), ("imply", "a", ()), ("cap", (), -1),
            ("cap", (), True), {"imply": 1}, Weird(), object())


def works():
    return Works(Rulebook(lot("ab"), [NEVER, EITHER]))


class Spoilt(Exception):
    """An error of a work's own."""


class DeedTest(unittest.TestCase):
    def test_random_deeds(self):
        """A list of the rules, and of the rules before each deed that stands, tells what the works have to tell."""
        chance = random.Random(1041)
        seen = set()
        for services, rules in helper.random_books(1042, 12):
            told = Works(Rulebook(services, rules))
            now = list(Rulebook(services, rules).rules)
            past = []
            for _ in range(25):
                deed = chance.choice(("put", "put", "drop", "swap", "undo"))
                rule = helper.random_rule(chance, services)
                kept = Rulebook(services, [rule]).rules[0]
                at = chance.randrange(len(now)) if now else None
                seen.add(deed)
                if deed == "undo":
                    self.assertIs(told.undo(), past != [])
                    now = past.pop() if past else now
                elif deed == "put" or at is None:
                    self.check(services, now, now + [kept], told.put(rule))
                    past.append(now)
                    now = now + [kept]
                else:
                    further = now[:at] + ([] if deed == "drop" else [kept]) + now[at + 1:]
                    self.check(services, now, further, told.drop(at) if deed == "drop" else told.swap(at, rule))
                    past.append(now)
                    now = further
                self.assertEqual(told.current, Rulebook(services, now))
                self.assertEqual(len(told), len(past))
        self.assertEqual(seen, {"put", "drop", "swap", "undo"})

    def check(self, services, before, behind, answer):
        one, other = helper.allowed(services, before), helper.allowed(services, behind)
        lost = tuple(state for state in one if state not in other)
        won = tuple(state for state in other if state not in one)
        self.assertEqual(answer, (lost, won))
        self.assertIs(type(answer), tuple)

    def test_by_hand(self):
        told = works()
        self.assertEqual(told.current.states(), lots("b"))
        self.assertEqual(told.drop(at=0), ((), lots("a ab")))
        self.assertEqual(told.put(rule=["imply", ["b", "a"], []]), (lots("ab"), ()))
        self.assertEqual(told.swap(rule=["table", ["a"], [[]]], at=0), (lots("a"), lots("-")))
        self.assertEqual(told.current.rules, (("table", lot("a"), ((),)), ("imply", lot("ab"), ())))
        self.assertEqual(len(told), 3)
        self.assertIs(told.undo(), True)
        self.assertEqual(told.current.rules, (EITHER, ("imply", lot("ab"), ())))
        self.assertEqual([told.undo() for _ in range(4)], [True, True, False, False])
        self.assertEqual(told.current, works().current)

    def test_the_rulebook_that_was_passed_stays(self):
        book = Rulebook(lot("ab"), [NEVER])
        told = Works(book=book)
        rule = ["imply", [], ["b"]]
        told.put(rule)
        rule[1].append("a")
        self.assertEqual(book, Rulebook(lot("ab"), [NEVER]))
        self.assertEqual(told.current.rules, (NEVER, ("imply", (), ("b",))))
        before = told.current
        told.drop(0)
        self.assertEqual(before.rules, (NEVER, ("imply", (), ("b",))))

    def test_errors(self):
        told = works()
        told.put(EITHER)
        for at in (None, True, False, -1, 3, 1.0, "0", (0,), Weird(), object()):
            self.assertEqual(raised(told.drop, at), (Refused, 0), repr(at))
            self.assertEqual(raised(told.swap, at, EITHER), (Refused, 0), repr(at))
            self.assertEqual(raised(told.swap, at, None), (Refused, 0), repr(at))
        for rule in NO_RULES:
            self.assertEqual(raised(told.put, rule), (InvalidRule, 3), repr(rule))
            self.assertEqual(raised(told.swap, 1, rule), (InvalidRule, 1), repr(rule))
        self.assertEqual(told.current.rules, (NEVER, EITHER, EITHER))
        self.assertEqual((len(told), told.made), (1, 0))


class WithinTest(unittest.TestCase):
    def test_what_is_done_is_taken_back(self):
        told = works()
        told.put(EITHER)

        def work(inner):
            self.assertIs(inner, told)
            inner.drop(0)
            inner.drop(0)
            self.assertEqual(len(inner), 3)
            inner.undo()
            return inner.current.states()

        self.assertEqual(told.within(work), lots("a ab b"))
        self.assertEqual((len(told), told.current.rules), (1, (NEVER, EITHER, EITHER)))
        self.assertIs(told.undo(), True)
        self.assertEqual(told.current, works().current)
        self.assertIsNone(told.within(lambda inner: None))
        self.assertEqual(told.within(work=lambda inner: inner.put(NEVER)), ((), ()))
        self.assertEqual(len(told), 0)

    def test_a_look_within_a_look(self):
        told = works()

        def inner_work(inner):
            inner.put(XOR)
            return len(inner)

        def work(inner):
            inner.drop(0)
            many = inner.within(inner_work)
            self.assertEqual(inner.current.rules, (EITHER,))
            self.assertEqual(raised(inner.within, lambda again: again.drop(7)), (Refused, 0))
            self.assertEqual(len(inner), 1)
            return many

        self.assertEqual(told.within(work), 2)
        self.assertEqual((len(told), told.current), (0, works().current))

    def test_errors_are_passed_on(self):
        told = works()
        told.put(XOR)

        def work(inner):
            inner.drop(0)
            inner.drop(0)
            raise Spoilt("here")

        with self.assertRaises(Spoilt):
            told.within(work)
        self.assertEqual((len(told), told.current.rules), (1, (NEVER, EITHER, XOR)))
        self.assertEqual(raised(told.within, lambda inner: inner.put(None)), (InvalidRule, 3))
        with self.assertRaises(KeyboardInterrupt):
            told.within(self.interrupted)
        self.assertEqual((len(told), told.current.rules), (1, (NEVER, EITHER, XOR)))
        self.assertIs(told.undo(), True)

    def interrupted(self, inner):
        inner.put(EITHER)
        raise KeyboardInterrupt


class VerdictTest(unittest.TestCase):
    def test_kept_verdicts(self):
        told = Works(Rulebook(lot("ab"), [XOR]))
        self.assertEqual(told.made, 0)
        first = told.verdict()
        self.assertEqual((first, told.made), (("locked", lots("a b")), 1))
        told.put(XOR)
        self.assertIs(told.verdict(), first)
        self.assertEqual(told.made, 1)
        told.put(NEVER)
        second = told.verdict()
        self.assertEqual((second, told.made), (("steps", ()), 2))
        told.undo()
        self.assertEqual((told.verdict(), told.made), (first, 3))
        self.assertEqual((told.verdict(), told.made), (first, 3))

    def test_a_verdict_that_is_not_the_one_that_would_be_made(self):
        """The one returned last is kept as long as it is a verdict, although another one would be made."""
        wide = Rulebook(lot("abc"), [("table", lot("abc"), lots("a bc"))])
        told = Works(wide)
        first = told.verdict()
        self.assertEqual(first, ("locked", lots("a bc")))
        told.swap(0, ("table", lot("abc"), lots("a bc ac")))
        self.assertIs(told.verdict(), first)
        self.assertTrue(is_verdict(told.current, first))
        self.assertEqual(told.made, 1)

    def test_random_deeds(self):
        chance = random.Random(1043)
        kept = 0
        for services, rules in helper.random_books(1044, 20, "abc"):
            told = Works(Rulebook(services, rules))
            last, made = None, 0
            for _ in range(15):
                deed = chance.choice(("put", "drop", "undo", "within"))
                if deed == "put":
                    told.put(helper.random_rule(chance, services))
                elif deed == "drop" and told.current.rules:
                    told.drop(chance.randrange(len(told.current.rules)))
                elif deed == "undo":
                    told.undo()
                if last is None or not is_verdict(told.current, last):
                    last, made = verdict(told.current), made + 1
                else:
                    kept += 1
                self.assertEqual(told.verdict(), last)
                self.assertEqual(told.made, made)
        self.assertGreater(kept, 40)

    def test_verdicts_within_a_look_count(self):
        told = Works(Rulebook(lot("ab"), []))
        self.assertEqual(told.within(self.locked), ("locked", lots("a b")))
        self.assertEqual(told.made, 1)
        self.assertEqual(told.verdict()[0], "steps")
        self.assertEqual(told.made, 2)

    def locked(self, inner):
        inner.put(XOR)
        return inner.verdict()


class TrialTest(unittest.TestCase):
    def test_by_words(self):
        chance = random.Random(1045)
        seen = set()
        for services, rules in helper.random_books(1046, 20):
            told = Works(Rulebook(services, rules))
            asked = [helper.random_rule(chance, services) for _ in range(5)]
            right = tuple(helper.is_bendable(helper.allowed(services, list(told.current.rules) + [rule]))
                          for rule in asked)
            self.assertEqual(told.trial(asked), right)
            self.assertEqual(told.trial(rules=tuple(asked)), right)
            self.assertEqual((len(told), told.current), (0, Rulebook(services, rules)))
            seen |= set(right)
        self.assertEqual(seen, {True, False})
        self.assertEqual(told.trial([]), ())
        self.assertTrue(is_bendable(Rulebook(lot("a"), [])))

    def test_errors(self):
        told = works()
        for odd in (None, True, 0, "ab", {}, {NEVER}, Weird(), object(), iter(())):
            self.assertEqual(raised(told.trial, odd), (InvalidRule, 0), repr(odd))
        for odd in NO_RULES:
            self.assertEqual(raised(told.trial, [NEVER, odd, None]), (InvalidRule, 1), repr(odd))
        self.assertNotEqual(raised(told.trial, [None]), (InvalidQuestion, 0))


if __name__ == "__main__":
    unittest.main()
