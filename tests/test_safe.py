"""[78] to [81]: open and safe states, answers that win, and evidence."""

import itertools
import random
import unittest

from stopsfirst.bending import bend
from stopsfirst.errors import InvalidPlan, InvalidQuestion, InvalidState, NotAllowed, NotBendable, Refused
from stopsfirst.others import Contest
from stopsfirst.rulebooks import Rulebook
from stopsfirst.safe import (
    bend_safely, climb_above, is_safety_evidence, safe_answer, safe_distance, safe_gap, safe_states, safety_evidence,
    stuck_least,
)
from tests import helper
from tests.contests import contests, let, needed_by_words
from tests.helper import Weird, fits, join, lot, lots, meet, minus, part, proper, raised

FREE = Rulebook(lot("ab"), [])
CLASH = Rulebook(lot("abc"), [("imply", lot("ab"), ())])
TORN = Rulebook(lot("ab"), [("table", lot("ab"), lots("a b"))])


def open_by_words(states, needs, left):
    """With None the safe states; else those of which others hold no allowed part with one stop fewer."""
    if left is None:
        return [state for state in states if needs[state] is None]
    return [state for state in states
            if not any(part(low, state) and needs[low] is not None and needs[low] <= left - 1 for low in states)]


def distances_by_words(states, batches, goals, inside):
    numbers = {goal: 0 for goal in goals if goal in inside}
    for many in range(1, len(states) + 1):
        for state in inside:
            if state not in numbers and any(numbers.get(t) == many - 1 for t in let(states, batches, state)):
                numbers[state] = many
    return numbers


class DistanceTest(unittest.TestCase):
    def test_by_words(self):
        found = set()
        long = Contest(Rulebook(lot("abcd"), []), lots("a b c d"), lots("abcd"))
        every = helper.all_lots("abcd")
        for contest, states, batches, goals in [*contests(761, 40), (long, every, long.batches, long.goals)]:
            needs = needed_by_words(states, batches, goals)
            for left in (None, 0, 1, 2, 1000):
                inside = open_by_words(states, needs, left)
                numbers = distances_by_words(states, batches, goals, inside)
                for state in states:
                    told = safe_distance(contest, state, left)
                    self.assertEqual(told, numbers.get(state))
                    wins = needs[state] is None if left is None else needs[state] is None or needs[state] > left
                    self.assertIs(told is not None, wins)
                    self.check_answer(contest, states, batches, state, left, numbers)
                    found.add(told)
        self.assertLessEqual({None, 0, 1, 2, 3}, found)

    def check_answer(self, contest, states, batches, state, left, numbers):
        if state not in numbers:
            self.assertEqual(raised(safe_answer, contest, state, left), (Refused, 0))
        elif numbers[state] == 0:
            self.assertEqual(safe_answer(contest, state, left), state)
        else:
            nearer = [t for t in let(states, batches, state) if numbers.get(t) == numbers[state] - 1]
            self.assertEqual(safe_answer(contest, state, left), min(nearer))

    def test_who_answers_so_wins(self):
        """All that others can do is played out; they lose where you come to a goal while they do not act."""
        played = 0
        for contest, states, batches, goals in contests(762, 40):
            for start, left in itertools.product(states, (0, 1, 2, 3)):
                if safe_distance(contest, start, left) is None:
                    continue
                played += 1
                seen = {(start, left)}
                todo = [(start, left)]
                while todo:
                    state, stops = todo.pop()
                    further = [(low, stops - 1) for low in states if stops and proper(low, state)]
                    if state not in goals:
                        distance = safe_distance(contest, state, stops)
                        answer = safe_answer(contest, state, stops)
                        self.assertTrue(fits(batches, minus(answer, state)))
                        self.assertEqual(safe_distance(contest, answer, stops), distance - 1)
                        further.append((answer, stops))
                    else:
                        self.assertEqual(safe_answer(contest, state, stops), state)
                    todo += [place for place in further if place not in seen]
                    seen.update(further)
        self.assertGreater(played, 300)

    def test_by_hand(self):
        contest = Contest(FREE, lots("a b"), lots("ab"))
        self.assertEqual(safe_distance(contest, ()), 2)
        self.assertEqual(safe_distance(left=3, state=lot("a"), contest=contest), 1)
        self.assertEqual(safe_answer(contest, ()), lot("a"))
        self.assertEqual(safe_answer(left=0, state=lot("b"), contest=contest), lot("ab"))
        stuck = Contest(FREE, lots("a"), lots("b"))
        self.assertEqual(safe_distance(stuck, lot("ab"), 0), 1)
        self.assertIsNone(safe_distance(stuck, lot("ab"), 1))
        self.assertIsNone(safe_distance(stuck, lot("b")))
        self.assertEqual(raised(safe_answer, stuck, lot("b")), (Refused, 0))


class LeastTest(unittest.TestCase):
    def test_stuck(self):
        for contest, states, batches, goals in contests(763, 60):
            needs = needed_by_words(states, batches, goals)
            stuck = [state for state in helper.least(states) if needs[state] == 0]
            self.assertEqual(stuck_least(contest), stuck[0] if stuck else None)
            self.assertIs(stuck == [], set(needs.values()) == {None})
        self.assertEqual(stuck_least(contest=Contest(FREE, (), lots("a"))), ())

    def climbs(self, states, batches, goals, state):
        """The shortest climbs from a state to above a goal, all of them."""
        level = [(state,)]
        while level:
            done = [climb for climb in level if any(part(goal, climb[-1]) for goal in goals)]
            if done:
                return done
            level = [climb + (t,) for climb in level for t in let(states, batches, climb[-1]) if proper(climb[-1], t)]
        return []

    def test_climbs(self):
        lengths = set()
        for seed in (764, 765):
            for contest, states, batches, goals in contests(seed, 40, bendable=seed == 765):
                for state in states:
                    climbs = self.climbs(states, batches, goals, state)
                    told = climb_above(contest, state)
                    self.assertEqual(told, min(climbs) if climbs else None)
                    lengths.add(told and len(told))
                    if seed == 765 and state in helper.least(states):
                        self.assertIs(contest.needed(state) == 0, told is None)
        self.assertLessEqual({None, 1, 2, 3}, lengths)

    def test_by_hand(self):
        contest = Contest(FREE, lots("a b"), lots("ab"))
        self.assertEqual(climb_above(state=(), contest=contest), lots("- a ab"))
        self.assertEqual(climb_above(contest, lot("ab")), lots("ab"))
        self.assertIsNone(climb_above(Contest(FREE, lots("a"), lots("b")), ()))
        self.assertEqual(climb_above(Contest(FREE, lots("a"), [()]), lot("b")), lots("b"))


class GapTest(unittest.TestCase):
    def test_by_words(self):
        gaps = 0
        for seed in (766, 767):
            for contest, states, batches, goals in contests(seed, 60, bendable=seed == 766):
                needs = needed_by_words(states, batches, goals)
                safe = [state for state in states if needs[state] is None]
                self.assertEqual(safe_states(contest), tuple(safe))
                pairs = [(a, b) for a in safe for b in safe
                         if not any(join(x, b) in safe for x in helper.between(states, meet(a, b), a))]
                self.assertEqual(safe_gap(contest), pairs[0] if pairs else None)
                gaps += bool(pairs)
        self.assertGreater(gaps, 3)

    def lazy(self, safe, plan):
        told = [plan[0]]
        for state in plan[1:]:
            around = [other for other in safe if part(state, other) and part(other, join(told[-1], state))]
            told.append(min(helper.greatest(around)))
        return told

    def test_bent_plans(self):
        chance = random.Random(768)
        found = set()
        for seed in (769, 770):
            for contest, states, batches, goals in contests(seed, 50, bendable=seed == 769):
                safe = list(safe_states(contest))
                for _ in range(6 if safe else 0):
                    plan = [chance.choice(safe) for _ in range(chance.randrange(1, 5))]
                    lazy = self.lazy(safe, plan)
                    tails = [lazy[-1]]
                    for state in reversed(lazy[:-1]):
                        tails.insert(0, meet(state, tails[0]))
                    right = all(state in states for state in tails)
                    found.add((right, safe_gap(contest) is None))
                    if not right:
                        self.assertEqual(raised(bend_safely, contest, plan), (NotBendable,))
                        continue
                    bent = bend_safely(plan=plan, contest=contest)
                    self.assertEqual((bent.plan, bent.climb), (tuple(plan), tuple(tails)))
                    self.assertTrue(helper.is_climb(states, plan, bent.climb))
        self.assertLessEqual({(True, True), (True, False), (False, False)}, found)
        self.assertNotIn((False, True), found)

    def test_bent_plans_may_leave_the_safe_states(self):
        """Here they do by the lazy plan of [26], but not by the one of safe states."""
        book = Rulebook(lot("abc"), [("table", lot("abc"), lots("ab abc ac bc"))])
        contest = Contest(book, (), lots("bc ac"))
        self.assertEqual(safe_states(contest), lots("ac bc"))
        self.assertEqual(bend(book, lots("ac bc")).climb, lots("ac abc"))
        self.assertEqual(safe_gap(contest), lots("ac bc"))
        book = Rulebook(lot("bcd"), [("table", lot("bcd"), lots("bc bcd bd c cd"))])
        contest = Contest(book, lots("b"), lots("c"))
        self.assertEqual(safe_states(contest), lots("bc c cd"))
        self.assertEqual(bend(book, lots("bc cd")).climb, lots("bc bcd"))
        self.assertEqual(bend_safely(contest, lots("bc cd")).climb, lots("c cd"))
        self.assertIsNone(safe_gap(contest))

    def test_errors(self):
        contest = Contest(CLASH, (), lots("a b"))
        self.assertEqual(safe_states(contest), ())
        contest = Contest(CLASH, lots("a"), lots("a"))
        for odd in helper.ODD_VALUES + (Weird(), lot("az"), lot("ab")):
            self.assertEqual(raised(bend_safely, contest, [(), odd]), (InvalidPlan, 1), repr(odd))
            if type(odd) not in (list, tuple):
                self.assertEqual(raised(bend_safely, contest, odd), (InvalidPlan, 0), repr(odd))
        self.assertEqual(raised(bend_safely, contest, []), (InvalidPlan, 0))
        apart = Contest(Rulebook(lot("abc"), [("table", lot("abc"), lots("a b bc"))]), (), lots("a"))
        self.assertEqual(raised(bend_safely, apart, lots("a b bc")), (NotAllowed, 1))
        self.assertEqual(raised(bend_safely, apart, [lot("a"), lot("b"), 5]), (InvalidPlan, 2))
        self.assertEqual(bend_safely(apart, lots("a a")).climb, lots("a a"))
        torn = Contest(TORN, None, lots("a"))
        self.assertEqual(raised(bend_safely, torn, lots("a b")), (NotBendable,))


def shows(states, batches, goals, state, value):
    """What [81] says of evidence, for a pair of a word and pairs of states and numbers."""
    word, rows = value
    told = dict(rows)
    if [row[0] for row in rows] != sorted(told) or state not in told:
        return False
    for a, r in rows:
        ways = [told[t] for t in let(states, batches, a) if t in told]
        below = [low for low in states if part(low, a)]
        if word == "safe":
            if not all(low in told for low in below) or not (r == 0 and a in goals or r - 1 in ways):
                return False
        elif not any(low in told and low != a and told[low] < r for low in below):
            if a in goals or not all(t in told and told[t] <= r for t in let(states, batches, a)):
                return False
    return True


class EvidenceTest(unittest.TestCase):
    def test_by_words(self):
        found = set()
        for contest, states, batches, goals in contests(771, 40):
            needs = needed_by_words(states, batches, goals)
            safe = open_by_words(states, needs, None)
            numbers = distances_by_words(states, batches, goals, safe)
            for state in states:
                told = safety_evidence(contest, state)
                if needs[state] is None:
                    self.assertEqual(told, ("safe", tuple((a, numbers[a]) for a in safe)))
                else:
                    held = [(a, needs[a]) for a in states if needs[a] is not None and needs[a] <= needs[state]]
                    self.assertEqual(told, ("held", tuple(held)))
                self.assertTrue(shows(states, batches, goals, state, told))
                self.assertIs(is_safety_evidence(contest, state, told), True)
                found.add(told[0])
        self.assertEqual(found, {"safe", "held"})

    def test_random_values(self):
        chance = random.Random(772)
        found = set()
        for contest, states, batches, goals in contests(773, 60, "abc"):
            needs = dict(contest.table())
            for state in states:
                for _ in range(12):
                    word, rows = safety_evidence(contest, state)
                    told = dict(rows)
                    for _ in range(chance.randrange(3)):
                        if chance.random() < 0.5:
                            told.pop(chance.choice(states), None)
                        else:
                            told[chance.choice(states)] = chance.randrange(4)
                    value = (chance.choice((word, "safe", "held")), tuple(sorted(told.items())))
                    right = shows(states, batches, goals, state, value)
                    self.assertIs(is_safety_evidence(contest, state, value), right)
                    found.add((right, value[0]))
                    if right and value[0] == "safe":
                        self.assertIsNone(needs[state])
                    elif right:
                        self.assertLessEqual(needs[state], dict(value[1])[state])
        self.assertEqual(found, set(itertools.product((True, False), ("safe", "held"))))

    def test_spoilt_values(self):
        for batches, start in ((None, ()), (lots("a"), lot("ab"))):
            contest = Contest(FREE, batches, lots("b"))
            word, rows = safety_evidence(contest, start)
            good = (word, rows)
            self.assertIs(is_safety_evidence(value=good, state=start, contest=contest), True)
            odds = helper.ODD_VALUES + (Weird(), (Weird(),), (), (word,), (word, rows, ()), [word, rows], (rows, word),
                                        (word, list(rows)), (word, rows + rows), (word, rows[::-1]), (word.upper(), rows),
                                        ("held" if word == "safe" else "safe", rows), (b"safe", rows), (Weird(), rows))
            for odd in odds:
                self.assertIs(is_safety_evidence(contest, start, odd), False, repr(odd))
                self.assertIs(is_safety_evidence(contest, start, (word, odd)), False, repr(odd))
            below = tuple((state, -1) for state, number in rows if number == 0)
            self.assertIs(is_safety_evidence(contest, below[0][0], (word, below)), False)
            for at, (state, number) in enumerate(rows):
                for row in ([state, number], (state,), (state, number, 0), (list(state), number), (state, bool(number)),
                            (state, float(number)), (state, str(number)), (state, -1), (state, None), (Weird(), number),
                            (state, Weird()), Weird(), None, (number, state), (lot("az"), number)):
                    spoilt = rows[:at] + (row,) + rows[at + 1:]
                    self.assertIs(is_safety_evidence(contest, start, (word, spoilt)), False, repr(row))


class ErrorTest(unittest.TestCase):
    def test_states_then_left(self):
        contest = Contest(CLASH, None, [()])
        asks = (
            lambda state: safe_distance(contest, state, -1), lambda state: safe_answer(contest, state, -1),
            lambda state: climb_above(contest, state), lambda state: safety_evidence(contest, state),
            lambda state: is_safety_evidence(contest, state, None),
        )
        for ask in asks:
            for odd in helper.ODD_VALUES + (["a"], lot("az"), Weird(), (Weird(),)):
                self.assertEqual(raised(ask, odd), (InvalidState, 0), repr(odd))
            self.assertEqual(raised(ask, lot("ab")), (NotAllowed, 0))
        for ask in (safe_distance, safe_answer):
            for odd in (True, False, -1, 1001, 1.0, "1", (1,), Weird(), object()):
                self.assertEqual(raised(ask, contest, lot("a"), odd), (InvalidQuestion, 2), repr(odd))
            for left in (None, 0, 1000):
                self.assertIsNone(raised(ask, contest, lot("a"), left))
        stuck = Contest(CLASH, (), lots("a"))
        self.assertEqual(raised(safe_answer, stuck, (), 1001), (InvalidQuestion, 2))
        self.assertEqual(raised(safe_answer, stuck, (), 1000), (Refused, 0))


if __name__ == "__main__":
    unittest.main()
