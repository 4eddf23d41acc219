"""[75] to [77]: contests, who holds which state, and how others reply."""

import unittest

from stopsfirst.errors import InvalidBatches, InvalidQuestion, InvalidState, NotAllowed
from stopsfirst.others import Contest, least_states
from stopsfirst.plans import checked_batches
from stopsfirst.reach import distances
from stopsfirst.rulebooks import Rulebook
from tests import helper
from tests.contests import contests, let, needed_by_words
from tests.helper import Weird, lot, lots, part, proper, raised

FREE = Rulebook(lot("ab"), [])
CLASH = Rulebook(lot("abc"), [("imply", lot("ab"), ())])
# Every second stop leads to where less is left.
STAIRS = Rulebook(lot("abc"), [("table", lot("abc"), lots("- a b ab ac abc"))])


class NeededTest(unittest.TestCase):
    def test_by_words(self):
        found = set()
        for seed in (751, 752):
            for contest, states, batches, goals in contests(seed, 60, bendable=seed == 752):
                right = needed_by_words(states, batches, goals)
                self.assertEqual(contest.table(), tuple(sorted(right.items())))
                for state in states:
                    self.assertEqual(contest.needed(state), right[state])
                    found.add(right[state])
        self.assertLessEqual({None, 0, 1, 2}, found)

    def test_facts(self):
        for contest, states, batches, goals in contests(753, 60):
            least = helper.least(states)
            self.assertEqual(least_states(contest.book), least)
            for state in states:
                needed = contest.needed(state)
                below = [contest.needed(low) for low in least if part(low, state)]
                self.assertIs(needed is None, all(number is None for number in below))
                self.assertLessEqual(needed or 0, len(least))
                reached = dict(distances(contest.book, state, batches))
                self.assertIs(needed == 0, not any(goal in reached for goal in goals))

    def test_by_hand(self):
        contest = Contest(FREE, [lot("a")], [lot("ab")])
        self.assertEqual(contest.table(), (((), 0), (lot("a"), 0), (lot("ab"), 1), (lot("b"), 1)))
        safe = Contest(goals=[lot("ab")], batches=None, book=FREE)
        self.assertEqual({number for _, number in safe.table()}, {None})
        contest = Contest(STAIRS, lots("c"), lots("abc"))
        self.assertEqual(dict(contest.table()), {(): 0, ("a",): 0, ("b",): 0, ("a", "b"): 1, ("a", "c"): 0,
                                                 ("a", "b", "c"): 1})
        self.assertIsNone(Contest(FREE, (), [()]).needed(lot("ab")))
        self.assertEqual(Contest(FREE, (), lots("a b")).table(), (((), 0), (("a",), 1), (("a", "b"), 1), (("b",), 1)))

    def test_fields(self):
        batches = [(), lot("a"), lot("a"), lot("ab")]
        contest = Contest(FREE, batches, [lot("b"), (), lot("b")])
        self.assertIs(contest.book, FREE)
        self.assertEqual(contest.batches, (lot("ab"),))
        self.assertEqual(contest.goals, ((), lot("b")))
        self.assertIs(Contest(FREE, None, [()]).batches, None)
        self.assertEqual(Contest(FREE, (), ((),) * 64).goals, ((),))
        for contest, _, batches, goals in contests(754, 20):
            self.assertEqual(contest.batches, checked_batches(contest.book, batches))
            self.assertEqual(contest.goals, tuple(sorted(set(goals))))


class LeastStatesTest(unittest.TestCase):
    def test_by_words(self):
        for services, rules in helper.random_books(755, 60):
            states = helper.allowed(services, rules)
            self.assertEqual(least_states(book=Rulebook(services, rules)), helper.least(states))
        self.assertEqual(least_states(Rulebook(lot("a"), [("imply", (), ())])), ())
        self.assertEqual(least_states(FREE), ((),))


class ReplyTest(unittest.TestCase):
    def right(self, states, needs, state, left):
        if needs[state] is None or needs[state] > left:
            return None
        choices = [(needs[low], low) for low in helper.least(states)
                   if proper(low, state) and needs[low] is not None and needs[low] < left]
        return min(choices)[1] if choices else None

    def test_by_words(self):
        replies = 0
        for contest, states, _, _ in contests(756, 50):
            needs = dict(contest.table())
            for state in states:
                for left in (0, 1, 2, 3, 1000):
                    told = contest.reply(state, left)
                    self.assertEqual(told, self.right(states, needs, state, left))
                    replies += told is not None
        self.assertGreater(replies, 200)

    def test_they_never_let_you_win(self):
        """All that you can do is played out; you win where you are at a goal and others do not act."""
        for contest, states, batches, goals in contests(757, 50):
            for start, needed in contest.table():
                for stops in range(needed, needed + 2) if needed is not None else ():
                    seen = {(start, stops)}
                    todo = [(start, stops)]
                    while todo:
                        state, left = todo.pop()
                        reply = contest.reply(state, left)
                        if reply is not None:
                            self.assertTrue(proper(reply, state))
                            further = [(reply, left - 1)]
                        else:
                            self.assertNotIn(state, goals)
                            further = [(other, left) for other in let(states, batches, state)]
                        todo += [place for place in further if place not in seen]
                        seen.update(further)

    def test_by_hand(self):
        contest = Contest(FREE, (), lots("a b"))
        self.assertIsNone(contest.reply(lot("ab"), 0))
        self.assertEqual(contest.reply(left=1, state=lot("ab")), ())
        self.assertEqual(contest.reply(lot("a"), 1000), ())
        self.assertIsNone(contest.reply((), 5))
        apart = Contest(Rulebook(lot("abc"), [("table", lot("abc"), lots("a b abc"))]), (), lots("abc"))
        self.assertEqual(apart.reply(lot("abc"), 1), lot("a"))
        self.assertIsNone(Contest(FREE, None, [()]).reply(lot("ab"), 1000))


class ErrorTest(unittest.TestCase):
    def test_contests(self):
        for odd in helper.ODD_VALUES + (["a"], lot("az"), Weird()):
            self.assertEqual(raised(Contest, CLASH, [(), odd, 5], None), (InvalidBatches, 1), repr(odd))
            self.assertEqual(raised(Contest, CLASH, None, [lot("a"), odd, lot("ab")]), (InvalidState, 1), repr(odd))
        for odd in (True, False, 0, "ab", {}, {()}, object(), Weird()):
            self.assertEqual(raised(Contest, CLASH, odd, None), (InvalidBatches, 0), repr(odd))
        for odd in (None, True, 0, "ab", {}, {(): 1}, {()}, (), [], [()] * 65, object(), Weird(), iter([()])):
            self.assertEqual(raised(Contest, CLASH, None, odd), (InvalidQuestion, 2), repr(odd))
        self.assertEqual(raised(Contest, CLASH, None, [lot("ab"), ["a"]]), (InvalidState, 1))
        self.assertEqual(raised(Contest, CLASH, None, ((), lot("ab"), lot("abc"))), (NotAllowed, 1))
        self.assertIsNone(raised(Contest, CLASH, None, [()] * 64))

    def test_states_then_left(self):
        contest = Contest(CLASH, None, [()])
        for odd in helper.ODD_VALUES + (["a"], lot("az"), Weird(), (Weird(),)):
            self.assertEqual(raised(contest.needed, odd), (InvalidState, 0), repr(odd))
            self.assertEqual(raised(contest.reply, odd, None), (InvalidState, 0), repr(odd))
        self.assertEqual(raised(contest.needed, lot("ab")), (NotAllowed, 0))
        self.assertEqual(raised(contest.reply, lot("ab"), None), (NotAllowed, 0))
        for odd in (None, True, False, -1, 1001, 1.0, "1", (1,), Weird(), object()):
            self.assertEqual(raised(contest.reply, lot("a"), odd), (InvalidQuestion, 1), repr(odd))
        for left in (0, 1000):
            self.assertIsNone(raised(contest.reply, lot("a"), left))


if __name__ == "__main__":
    unittest.main()
