"""[21]: evidence that a rulebook is bendable, or not."""

import random
import unittest

from stopsfirst.errors import InvalidQuestion, InvalidState, NotAllowed
from stopsfirst.evidence import follow, is_steps, is_verdict, verdict
from stopsfirst.rulebooks import Rulebook
from tests import helper
from tests.helper import Weird, lot, lots, raised

BENDABLE = helper.bendable_books(71, 40) + helper.bendable_books(72, 20, "abc")
BOOKS = helper.random_books(73, 40) + helper.random_books(74, 20, "abc") + helper.random_books(75, 4, "a")


def choices(states):
    """For each pair A, B with A not within B all X that a step table may have there."""
    found = {}
    for a in states:
        for b in states:
            if not helper.part(a, b):
                found[a, b] = [x for x in helper.between(states, helper.meet(a, b), a)
                               if x != a or helper.join(a, b) in states]
    return found


def table_by_words(states):
    """The ascending step table of a bendable rulebook that `verdict` tells."""
    rows = []
    for (a, b), told in sorted(choices(states).items()):
        rows.append((a, b, a if a in told else told[0]))
    return tuple(rows)


def any_table(seed, states):
    """Some step table in some order."""
    chance = random.Random(seed)
    rows = [(a, b, chance.choice(told)) for (a, b), told in choices(states).items()]
    chance.shuffle(rows)
    return tuple(rows)


class VerdictTest(unittest.TestCase):
    def test_verdict(self):
        words = set()
        for services, rules in BOOKS + BENDABLE:
            book = Rulebook(services, rules)
            states = helper.allowed(services, rules)
            bad = helper.bad_pairs(states)
            if bad:
                nearest = min(len(set(a) ^ set(b)) for a, b in bad)
                told = ("locked", [(a, b) for a, b in bad if len(set(a) ^ set(b)) == nearest][0])
            else:
                told = ("steps", table_by_words(states))
            self.assertEqual(verdict(book), told)
            self.assertIs(is_verdict(book, told), True)
            words.add(told[0])
        self.assertEqual(words, {"steps", "locked"})

    def test_by_hand(self):
        book = Rulebook(lot("ab"), [("table", lot("ab"), lots("- a b"))])
        self.assertEqual(verdict(book), ("steps", (
            (lot("a"), (), lot("a")), (lot("a"), lot("b"), ()), (lot("b"), (), lot("b")), (lot("b"), lot("a"), ()))))
        torn = Rulebook(lot("ab"), [("table", lot("ab"), lots("a b"))])
        self.assertEqual(verdict(torn), ("locked", (lot("a"), lot("b"))))

    def test_few_states(self):
        for rules in ([("imply", (), ())], [("table", lot("ab"), [lot("a")])]):
            book = Rulebook(lot("ab"), rules)
            self.assertEqual(verdict(book), ("steps", ()))
            self.assertIs(is_steps(book, ()), True)
            self.assertIs(is_verdict(book, ("steps", ())), True)


class StepTableTest(unittest.TestCase):
    def test_any_step_table(self):
        for at, (services, rules) in enumerate(BENDABLE):
            book = Rulebook(services, rules)
            for seed in range(3):
                rows = any_table(at * 10 + seed, helper.allowed(services, rules))
                self.assertIs(is_steps(book, rows), True)
                self.assertIs(is_verdict(book, ("steps", rows)), True)

    def test_each_row(self):
        for services, rules in BENDABLE[:5] + BENDABLE[-12:]:
            book = Rulebook(services, rules)
            states = helper.allowed(services, rules)
            rows = table_by_words(states)
            told = choices(states)
            for at, (a, b, _) in enumerate(rows):
                for x in helper.all_lots(services):
                    changed = rows[:at] + ((a, b, x),) + rows[at + 1:]
                    self.assertIs(is_steps(book, changed), x in told[a, b])

    def test_missing_and_further_rows(self):
        for services, rules in BENDABLE[:4] + BENDABLE[-8:]:
            book = Rulebook(services, rules)
            states = helper.allowed(services, rules)
            rows = table_by_words(states)
            for at, row in enumerate(rows):
                self.assertIs(is_steps(book, rows[:at] + rows[at + 1:]), False)
                self.assertIs(is_steps(book, rows + (row,)), False)
                self.assertIs(is_steps(book, rows[:at] + (rows[at - 1],) + rows[at + 1:]), len(rows) == 1)
            for a in helper.all_lots(services):
                for b in helper.all_lots(services):
                    if a not in states or b not in states or helper.part(a, b):
                        self.assertIs(is_steps(book, rows + ((a, b, a),)), False)
                        if rows:
                            self.assertIs(is_steps(book, rows[1:] + ((a, b, a),)), False)

    def test_no_table_where_a_change_is_locked(self):
        for services, rules in BOOKS:
            states = helper.allowed(services, rules)
            if not helper.is_bendable(states):
                book = Rulebook(services, rules)
                told = choices(states)
                rows = tuple((a, b, told[a, b][0]) for a, b in sorted(told) if told[a, b])
                self.assertIs(is_steps(book, rows), False)
                rows = tuple((a, b, told[a, b][0] if told[a, b] else a) for a, b in sorted(told))
                self.assertIs(is_steps(book, rows), False)

    def test_spoilt_tables(self):
        book = Rulebook(lot("ab"), [("table", lot("ab"), lots("- a b"))])
        rows = verdict(book)[1]
        self.assertIs(is_steps(book, rows[::-1]), True)
        row = rows[0]
        for spoilt in (list(row), row[:2], row + ((),), (row[0], row[1]), None, "abc", (list(row[0]), row[1], row[2]),
                       (row[0], list(row[1]), row[2]), (row[0], row[1], list(row[2])), (row[0], row[1], None),
                       (row[0], row[1], ("z",)), (row[0], row[1], lot("ab")), (None, row[1], row[2]), Weird(),
                       (row[0], Weird(), row[2]), (Weird(), Weird(), Weird()), ("a", (), ("a",)), (("a", "a"), (), ())):
            self.assertIs(is_steps(book, (spoilt,) + rows[1:]), False, repr(spoilt))
            self.assertIs(is_verdict(book, ("steps", (spoilt,) + rows[1:])), False, repr(spoilt))
        for value in helper.ODD_VALUES + (list(rows), {row: 1 for row in rows}, Weird(), row, ("steps", rows)):
            self.assertIs(is_steps(book, value), False, repr(value))

    def test_spoilt_verdicts(self):
        book = Rulebook(lot("ab"), [("table", lot("ab"), lots("- a b"))])
        rows = verdict(book)[1]
        for value in helper.ODD_VALUES + (
            ["steps", rows], ("steps",), ("steps", rows, ()), ("Steps", rows), (rows, "steps"), ("locked", rows), rows,
            ("locked", (lot("a"), lot("b"))), ("steps", list(rows)), ("steps", None), (None, rows), (Weird(), rows),
            Weird(), ("", rows), (b"steps", rows), (["steps"], rows), ("locked", ()), (), ("steps", ()),
        ):
            self.assertIs(is_verdict(book, value), False, repr(value))


class LockedTest(unittest.TestCase):
    def test_any_locked_pair(self):
        for services, rules in BOOKS:
            book = Rulebook(services, rules)
            states = helper.allowed(services, rules)
            for a in helper.all_lots(services):
                for b in helper.all_lots(services):
                    told = a in states and b in states and helper.is_locked(states, a, b)
                    self.assertIs(is_verdict(book, ("locked", (a, b))), told)

    def test_spoilt_pairs(self):
        book = Rulebook(lot("abc"), [("table", lot("ab"), lots("a b"))])
        a, b = lot("a"), lot("b")
        self.assertIs(is_verdict(book, ("locked", (b, a))), True)
        self.assertIs(is_verdict(book, value=("locked", (lot("ac"), lot("b")))), False)
        for value in ((a, b, a), (a,), [a, b], a, None, "ab", ("a", "b"), (["a"], b), (a, ["b"]), (a, None), (None, b),
                      (a, a), (a, lot("ab")), (a, ("z",)), Weird(), (Weird(), b), (a, Weird()), ()):
            self.assertIs(is_verdict(book, ("locked", value)), False, repr(value))
        for value in (["locked", (a, b)], ("locked",), ("locked", (a, b), 1), ("steps", (a, b)), ((a, b), "locked"),
                      ("lock", (a, b)), (None, (a, b)), (Weird(), (a, b)), ("locked", a, b), (a, b)):
            self.assertIs(is_verdict(book, value), False, repr(value))


class FollowTest(unittest.TestCase):
    def follow_by_words(self, rows, a, b):
        steps = {(one, other): x for one, other, x in rows}
        way = [a]
        while not helper.part(way[-1], b) and steps[way[-1], b] != way[-1]:
            way.append(steps[way[-1], b])
        return tuple(way)

    def test_follow(self):
        lengths = set()
        for at, (services, rules) in enumerate(BENDABLE):
            book = Rulebook(services, rules)
            states = helper.allowed(services, rules)
            for rows in (table_by_words(states), any_table(at, states)):
                for a in states:
                    for b in states:
                        way = follow(book, rows, a, b)
                        self.assertEqual(way, self.follow_by_words(rows, a, b))
                        self.assertIn(way[-1], helper.middles(states, a, b))
                        lengths.add(len(way))
        self.assertLessEqual({1, 2, 3}, lengths)

    def test_errors(self):
        book = Rulebook(lot("ab"), [("table", lot("ab"), lots("- a b"))])
        rows = verdict(book)[1]
        for value in helper.ODD_VALUES + (list(rows), rows[1:], rows + rows[:1], Weird(), ("steps", rows)):
            self.assertEqual(raised(follow, book, value, lot("a"), lot("b")), (InvalidQuestion, 0), repr(value))
            self.assertEqual(raised(follow, book, value, None, lot("ab")), (InvalidQuestion, 0), repr(value))
        self.assertEqual(raised(follow, book, rows, None, lot("ab")), (InvalidState, 0))
        self.assertEqual(raised(follow, book, rows, lot("ab"), None), (InvalidState, 1))
        self.assertEqual(raised(follow, book, rows, lot("ab"), lot("a")), (NotAllowed, 0))
        self.assertEqual(raised(follow, book, rows, lot("a"), lot("ab")), (NotAllowed, 1))
        self.assertEqual(follow(second=lot("b"), first=lot("a"), rows=rows, book=book), (lot("a"), ()))


if __name__ == "__main__":
    unittest.main()
