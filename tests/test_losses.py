"""[53] to [57]: what plans stop and start on the way, and what shows that they have to."""

import itertools
import random
import unittest

from stopsfirst.court import is_bendable
from stopsfirst.errors import InvalidBatches, InvalidPlan, InvalidQuestion, InvalidState, NotAllowed, NotBendable
from stopsfirst.losses import (
    fence_holds, keeps_limits, least_footprints, least_hitters, least_losses, least_starts, lies_under, limited_plan,
    limited_tops, loss_evidence, loss_of, losses_told, starts_of,
)
from stopsfirst.plans import checked_plan, wrong_change
from stopsfirst.rulebooks import Rulebook
from tests import helper
from tests.helper import Weird, fits, join, lot, lots, minus, part, raised

FREE = Rulebook(lot("ab"), [])
TORN = Rulebook(lot("ab"), [("table", lot("ab"), lots("a b"))])
CLASH = Rulebook(lot("abc"), [("imply", lot("ab"), ())])
# From the empty state a and b are started one after the other only while c or d runs.
EITHER = (lot("abcd"), helper.table_of("abcd", lots("- ab abc abcd abd ac acd ad c cd d")))
BOOKS = [told for told in helper.random_books(531, 30) if helper.allowed(*told)]
SMALL = [told for told in helper.random_books(532, 30, "abc") if helper.allowed(*told)]
BENDABLE = helper.bendable_books(533, 30)
JOINED = [told for told in helper.random_books(534, 120) if helper.allowed(*told)
          and all(join(a, b) in helper.allowed(*told) for a in helper.allowed(*told) for b in helper.allowed(*told))]


def journeys(books, seed, many):
    """Rulebooks with their states, batches, and two states."""
    chance = random.Random(seed)
    for services, rules in books:
        states = helper.allowed(services, rules)
        for batches in helper.random_batches(chance.random(), services, many):
            yield Rulebook(services, rules), states, batches, chance.choice(states), chance.choice(states)


def footprints(states, batches, start):
    """For each state all (loss, starts) of plans to it, by making plans longer until nothing new is seen."""
    seen = {(start, (), ())}
    new = list(seen)
    while new:
        further = []
        for state, loss, starts in new:
            for other in states:
                if fits(batches, minus(other, state)):
                    told = (other, join(loss, minus(state, other)), join(starts, minus(other, state)))
                    if told not in seen:
                        seen.add(told)
                        further.append(told)
        new = further
    return seen


def within_limits(seen, stops, starts):
    return sorted({state for state, loss, started in seen if part(loss, stops) and part(started, starts)})


def is_calm(plan):
    return all(part(plan[at], plan[at + 1]) for at in range(1, len(plan) - 2))


class LossTest(unittest.TestCase):
    def by_words(self, plan):
        loss = {name for a, b in zip(plan, plan[1:]) for name in a if name not in b}
        starts = {name for a, b in zip(plan, plan[1:]) for name in b if name not in a}
        return tuple(sorted(loss)), tuple(sorted(starts))

    def test_by_words(self):
        found = set()
        for services, rules in BOOKS:
            book = Rulebook(services, rules)
            for plan in helper.random_plans(535, list(book.states()), 6):
                loss, starts = self.by_words(plan)
                self.assertEqual(loss_of(book, plan), loss)
                self.assertEqual(starts_of(book, list(plan)), starts)
                for one, other in itertools.islice(itertools.product(helper.all_lots(services), repeat=2), 0, None, 5):
                    right = part(loss, one) and part(starts, other)
                    self.assertIs(keeps_limits(book, plan, one, other), right)
                    found.add(right)
                self.assertIs(keeps_limits(book, plan, loss, starts), True)
        self.assertEqual(found, {True, False})

    def test_by_hand(self):
        self.assertEqual(loss_of(plan=lots("a ab b a"), book=FREE), lot("ab"))
        self.assertEqual(starts_of(plan=lots("a ab b a"), book=FREE), lot("ab"))
        self.assertEqual((loss_of(FREE, lots("a")), starts_of(FREE, lots("a a"))), ((), ()))
        self.assertIs(keeps_limits(starts=(), stops=lot("a"), plan=lots("a -"), book=FREE), True)
        self.assertIs(keeps_limits(FREE, lots("a -"), lot("b"), lot("ab")), False)
        self.assertIs(keeps_limits(FREE, lots("- a"), lot("ab"), lot("b")), False)

    def test_errors(self):
        for ask in (loss_of, starts_of, lambda book, plan: keeps_limits(book, plan, None, None)):
            for plan in (None, [], "a", lot("c"), {(): 1}, Weird()):
                self.assertEqual(raised(ask, FREE, plan), (InvalidPlan, 0))
            self.assertEqual(raised(ask, TORN, lots("a b ab")), (InvalidPlan, 2))
            self.assertEqual(raised(ask, TORN, [lot("a"), ["b"]]), (InvalidPlan, 1))
        for odd in helper.ODD_VALUES + (["a"], lot("abc"), Weird(), (Weird(),)):
            self.assertEqual(raised(keeps_limits, FREE, lots("a"), odd, odd), (InvalidQuestion, 0), repr(odd))
            self.assertEqual(raised(keeps_limits, FREE, lots("a"), (), odd), (InvalidQuestion, 1), repr(odd))


class LimitedTest(unittest.TestCase):
    def limits(self, services, chance, many):
        every = helper.all_lots(services)
        yield (), ()
        yield tuple(services), tuple(services)
        for _ in range(many):
            yield chance.choice(every), chance.choice(every)

    def test_plans_and_tops(self):
        chance = random.Random(536)
        found = set()
        for book, states, batches, start, goal in journeys(BOOKS, 537, 5):
            seen = footprints(states, batches, start)
            for stops, starts in self.limits(book.services, chance, 4):
                reached = within_limits(seen, stops, starts)
                plan = limited_plan(book, batches, start, goal, stops, starts)
                self.assertIs(plan is not None, goal in reached)
                found.add(plan and min(len(plan), 3))
                if plan is not None:
                    self.assertEqual((plan[0], plan[-1]), (start, goal))
                    self.assertIsNone(wrong_change(book, plan, batches))
                    self.assertIs(keeps_limits(book, plan, stops, starts), True)
                tops = limited_tops(book, batches, start, stops, starts)
                under = [(a, e) for a in states for e in states if part(a, e) and part(minus(e, a), stops)]
                right = tuple(a for a in reached if not any((a, e) in under for e in reached if e != a))
                self.assertEqual(tops, right)
                self.assertIs(fence_holds(book, batches, start, stops, starts, tops), True)
                self.assertEqual([a for a in states if any((a, e) in under for e in tops)], reached)
        self.assertEqual(found, {None, 1, 2, 3})

    def test_calm_plans_in_bendable_rulebooks(self):
        chance = random.Random(538)
        longest = 0
        free = (lot("abcd"), [])
        for book, states, batches, start, goal in journeys(BENDABLE + [free, free], 539, 6):
            for stops, starts in self.limits(book.services, chance, 5):
                plan = limited_plan(book, batches, start, goal, stops, starts)
                if plan is not None:
                    self.assertTrue(is_calm(plan))
                    self.assertLessEqual(len(plan) - 1, max(1, len(starts)))
                    longest = max(longest, len(plan))
        self.assertGreaterEqual(longest, 4)

    def test_plans_that_the_search_would_not_find_calm(self):
        """The shortest plan stops something in the middle; a calm one is returned all the same."""
        calm = 0
        for services, rules in BENDABLE:
            book = Rulebook(services, rules)
            ones = tuple((name,) for name in services)
            for start, goal in itertools.product(book.states(), repeat=2):
                plan = limited_plan(book, ones, start, goal, tuple(services), tuple(services))
                if plan is not None:
                    self.assertTrue(is_calm(plan))
                    self.assertLessEqual(len(plan) - 1, 4)
                    calm += len(plan) > 3
        self.assertGreater(calm, 20)

    def test_by_hand(self):
        self.assertEqual(limited_plan(FREE, [], lot("ab"), (), lot("ab"), ()), lots("ab -"))
        self.assertIsNone(limited_plan(FREE, None, lot("ab"), (), lot("a"), lot("ab")))
        self.assertIsNone(limited_plan(FREE, None, (), lot("ab"), lot("ab"), lot("a")))
        self.assertEqual(limited_plan(starts=(), stops=(), goal=lot("a"), start=lot("a"), batches=(), book=FREE), lots("a"))
        self.assertEqual(limited_tops(FREE, None, lot("a"), (), lot("b")), lots("a ab"))
        self.assertEqual(limited_tops(starts=lot("b"), stops=lot("ab"), start=lot("a"), batches=None, book=FREE), lots("ab"))
        self.assertEqual(limited_tops(TORN, None, lot("a"), lot("a"), lot("b")), lots("a b"))


class FenceTest(unittest.TestCase):
    def by_words(self, states, batches, start, stops, starts, fence):
        def under(a):
            return any(part(a, e) and part(minus(e, a), stops) for e in fence)
        if not under(start) or list(fence) != sorted(set(fence)):
            return False
        return all(under(b) for e in fence for b in states if fits(batches, minus(b, e))
                   and part(minus(e, b), stops) and part(minus(b, e), starts))

    def test_all_sets_of_states(self):
        chance = random.Random(540)
        found = set()
        for book, states, batches, start, goal in journeys(SMALL, 541, 5):
            if len(states) > 6:
                continue
            stops, starts = [chance.choice(helper.all_lots("abc")) for _ in range(2)]
            reached = within_limits(footprints(states, batches, start), stops, starts)
            for chosen in range(1 << len(states)):
                fence = tuple(state for k, state in enumerate(states) if chosen >> k & 1)
                right = self.by_words(states, batches, start, stops, starts, fence)
                self.assertIs(fence_holds(book, batches, start, stops, starts, fence), right)
                found.add(right)
                for state in states:
                    told = any(part(state, e) and part(minus(e, state), stops) for e in fence)
                    self.assertIs(lies_under(state, fence, stops), told)
                    if right and not told:
                        self.assertNotIn(state, reached)
        self.assertEqual(found, {True, False})

    def test_lies_under(self):
        every = helper.all_lots("abc")
        for state, one, stops in itertools.product(every, repeat=3):
            right = part(state, one) and part(minus(one, state), stops)
            self.assertIs(lies_under(state, [one], stops), right)
            self.assertIs(lies_under(state, (lot("z"), one), stops), right)
        self.assertIs(lies_under((), [], ()), False)
        self.assertIs(lies_under(stops=lot("b"), fence=list(lots("c abc ab")), state=lot("a")), True)

    def test_spoilt_values(self):
        ask = (CLASH, lots("c b"), lot("a"), lot("a"), lot("bc"))
        good = limited_tops(*ask)
        self.assertEqual(good, lots("a ac b bc"))
        self.assertIs(fence_holds(*ask, good), True)
        self.assertIs(fence_holds(*ask, ((),) + good), True)
        self.assertIs(fence_holds(value=good, starts=lot("bc"), stops=lot("a"), start=lot("a"), batches=lots("c b"),
                                  book=CLASH), True)
        for odd in (good[:1] + good, good + good[-1:], (good[1], good[0], *good[2:]), (*good[:2], good[3], good[2])):
            self.assertIs(fence_holds(*ask, odd), False)
        for odd in helper.ODD_VALUES + (Weird(), (Weird(),), (), lot("ab"), good[:1], good[1:], good[::-1], list(good),
                                        good + good[1:], lots("ab ac bc"), good + (lot("z"),)):
            self.assertIs(fence_holds(*ask, odd), False, repr(odd))
            self.assertIs(fence_holds(*ask, good + (odd,)), False, repr(odd))
            if odd != () or isinstance(odd, Weird):
                self.assertIs(fence_holds(*ask, (odd,) + good), False, repr(odd))

    def test_errors(self):
        for ask in (lambda *more: fence_holds(CLASH, *more, None), lambda *more: limited_tops(CLASH, *more),
                    lambda batches, *more: limited_plan(CLASH, batches, (), *more)):
            number = 0 if raised(ask, (), None, (), ())[1] == 0 else 1
            for odd in helper.ODD_VALUES + (["a"], lot("az"), Weird(), (Weird(),)):
                self.assertEqual(raised(ask, [(), odd], odd, odd, odd), (InvalidBatches, 1), repr(odd))
                self.assertEqual(raised(ask, 5, odd, odd, odd), (InvalidBatches, 0), repr(odd))
                self.assertEqual(raised(ask, (), odd, odd, odd), (InvalidState, number), repr(odd))
                self.assertEqual(raised(ask, (), lot("a"), odd, odd), (InvalidQuestion, 0), repr(odd))
                self.assertEqual(raised(ask, (), lot("a"), lot("abc"), odd), (InvalidQuestion, 1), repr(odd))
            self.assertEqual(raised(ask, (), lot("ab"), None, None), (NotAllowed, number))
        self.assertEqual(raised(limited_plan, CLASH, (), None, lot("ab"), None, None), (InvalidState, 0))
        self.assertEqual(raised(limited_plan, CLASH, (), lot("ab"), None, None, None), (InvalidState, 1))


class LeastTest(unittest.TestCase):
    def test_losses_and_starts(self):
        found = set()
        for book, states, batches, start, goal in [*journeys(BOOKS + BENDABLE, 542, 6), *self.either()]:
            seen = footprints(states, batches, start)
            told = least_losses(book, batches, start, goal)
            self.assertEqual(told, helper.least([loss for state, loss, _ in seen if state == goal]))
            found.add(len(told))
            starts = least_starts(book, batches, start, goal)
            self.assertEqual(starts, helper.least([started for state, _, started in seen if state == goal]))
        self.assertLessEqual({0, 1, 2}, found)

    def test_footprints(self):
        found = set()
        for book, states, batches, start, goal in [*journeys(BENDABLE + BOOKS, 543, 6), *self.either()]:
            if not helper.is_bendable(states):
                self.assertEqual(raised(least_footprints, book, batches, start, goal), (NotBendable,))
                continue
            pairs = {(loss, started) for state, loss, started in footprints(states, batches, start) if state == goal}
            right = sorted(pair for pair in pairs if not any(
                other != pair and part(other[0], pair[0]) and part(other[1], pair[1]) for other in pairs))
            self.assertEqual(least_footprints(book, batches, start, goal), tuple(right))
            found.add(len(right))
        self.assertLessEqual({0, 1, 2}, found)

    def either(self):
        """The same questions where one of two services has to be started and stopped again."""
        book = Rulebook(*EITHER)
        for start, goal in itertools.product(book.states(), repeat=2):
            for batches in (lots("a b c d"), lots("a b cd"), lots("ab c d")):
                yield book, list(book.states()), batches, start, goal

    def test_one_of_two(self):
        ask = (Rulebook(*EITHER), lots("a b c d"), (), lot("ab"))
        self.assertEqual(least_losses(*ask), lots("c d"))
        self.assertEqual(least_starts(*ask), lots("abc abd"))
        self.assertEqual(least_footprints(*ask), ((lot("c"), lot("abc")), (lot("d"), lot("abd"))))
        plans, fences = loss_evidence(*ask)
        self.assertEqual((len(plans), len(fences)), (2, 1))

    def test_footprints_ascend_as_lots_do(self):
        """e and f are started one after the other only while b, or both a and d, run."""
        states = [state for state in helper.all_lots("abdef")
                  if ("e" in state) == ("f" in state) or "b" in state or {"a", "d"} <= set(state)]
        book = Rulebook(lot("abdef"), helper.table_of("abdef", states))
        ask = (book, lots("a b d e f"), (), lot("ef"))
        self.assertEqual(least_losses(*ask), lots("ad b"))
        self.assertEqual(least_footprints(*ask), ((lot("ad"), lot("adef")), (lot("b"), lot("bef"))))

    def test_where_joins_are_allowed(self):
        seen = 0
        for book, states, batches, start, goal in journeys(JOINED, 544, 6):
            for loss in least_losses(book, batches, start, goal):
                self.assertEqual(helper.meet(loss, goal), ())
                seen += 1
        self.assertGreater(seen, 100)

    def test_by_hand(self):
        self.assertEqual(least_losses(FREE, [], lot("ab"), lot("a")), lots("b"))
        self.assertEqual(least_losses(FREE, [], lot("a"), lot("ab")), ())
        self.assertEqual(least_losses(goal=lot("a"), start=lot("a"), batches=[], book=FREE), lots("-"))
        self.assertEqual(least_starts(goal=lot("a"), start=lot("ab"), batches=[], book=FREE), lots("-"))
        self.assertEqual(least_starts(FREE, [], lot("a"), lot("ab")), ())
        self.assertEqual(least_footprints(goal=lot("b"), start=lot("a"), batches=None, book=FREE), ((lot("a"), lot("b")),))
        self.assertEqual(least_footprints(FREE, (), (), lot("a")), ())
        self.assertEqual(raised(least_footprints, TORN, (), lot("a"), lot("b")), (NotBendable,))
        self.assertEqual(raised(least_footprints, TORN, (), lot("a"), lot("a")), (NotBendable,))

    def test_errors(self):
        for ask in (least_losses, least_starts, least_footprints, loss_evidence,
                    lambda *more: losses_told(*more, None, None)):
            for odd in helper.ODD_VALUES + (["a"], lot("abz"), Weird(), (Weird(),)):
                self.assertEqual(raised(ask, TORN, [(), odd], odd, odd), (InvalidBatches, 1), repr(odd))
                self.assertEqual(raised(ask, TORN, (), odd, odd), (InvalidState, 0), repr(odd))
                self.assertEqual(raised(ask, TORN, (), (), odd), (InvalidState, 1), repr(odd))
            self.assertEqual(raised(ask, TORN, 7, None, None), (InvalidBatches, 0))
            self.assertEqual(raised(ask, TORN, (), (), lot("ab")), (NotAllowed, 0))
            self.assertEqual(raised(ask, TORN, (), lot("a"), lot("ab")), (NotAllowed, 1))


def hitters_by_words(told):
    names = sorted({name for one in told for name in one})
    return helper.least([hitter for hitter in helper.all_lots(names) if all(set(hitter) & set(one) for one in told)])


class HitterTest(unittest.TestCase):
    def test_by_words(self):
        chance = random.Random(545)
        every = helper.all_lots("abcde")
        lengths = set()
        for _ in range(300):
            told = [chance.choice(every) for _ in range(chance.randrange(5))]
            self.assertEqual(least_hitters(told), hitters_by_words(told))
            self.assertEqual(least_hitters(lots=tuple(told)), hitters_by_words(told))
            lengths.add(len(told))
        self.assertEqual(lengths, {0, 1, 2, 3, 4})

    def test_by_hand(self):
        self.assertEqual(least_hitters([]), ((),))
        self.assertEqual(least_hitters(lots("ab -")), ())
        self.assertEqual(least_hitters([()]), ())
        self.assertEqual(least_hitters(lots("ab bc")), lots("ac b"))
        self.assertEqual(least_hitters([("aa", "zz")]), (("aa",), ("zz",)))

    def test_errors(self):
        for odd in helper.ODD_VALUES + (["a"], lot("ba"), Weird(), (Weird(),)):
            if not any(helper.is_same(odd, told) for told in (("z",),)):
                self.assertEqual(raised(least_hitters, [(), odd, 5]), (InvalidQuestion, 1), repr(odd))
            if not isinstance(odd, (list, tuple)):
                self.assertEqual(raised(least_hitters, odd), (InvalidQuestion, 0), repr(odd))
        self.assertEqual(raised(least_hitters, {(): 1}), (InvalidQuestion, 0))


class EvidenceTest(unittest.TestCase):
    def holds(self, states, batches, start, goal, services, losses, value):
        """What [57] says of losses that are told, word by word; the losses are lots of services, ascending."""
        if any(one != other and part(one, other) for one in losses for other in losses):
            return False
        plans, fences = value
        hitters = hitters_by_words(losses)
        if len(plans) != len(losses) or len(fences) != len(hitters):
            return False
        for plan, loss in zip(plans, losses):
            if not plan or plan[0] != start or plan[-1] != goal or any(state not in states for state in plan):
                return False
            for a, b in zip(plan, plan[1:]):
                if not fits(batches, minus(b, a)) or not part(minus(a, b), loss):
                    return False
        for fence, hitter in zip(fences, hitters):
            stops = minus(services, hitter)
            if not FenceTest().by_words(states, batches, start, stops, services, fence):
                return False
            if any(part(goal, e) and part(minus(e, goal), stops) for e in fence):
                return False
        return True

    def test_evidence_holds(self):
        found = set()
        for book, states, batches, start, goal in [*journeys(BOOKS, 546, 6), *list(LeastTest().either())[::7]]:
            losses = least_losses(book, batches, start, goal)
            value = loss_evidence(book, batches, start, goal)
            self.assertTrue(self.holds(states, batches, start, goal, book.services, losses, value))
            self.assertIs(losses_told(book, batches, start, goal, losses, value), True)
            found.add((len(value[0]), len(value[1])))
            for other in (losses[1:], losses + (tuple(book.services),), ((),), (), lots("a"), losses[::-1]):
                if other != losses:
                    self.assertIs(losses_told(book, batches, start, goal, other, value), False)
        self.assertGreater(len(found), 4)

    def test_no_other_losses_have_evidence(self):
        """For small rulebooks: any ascending tuple of lots, with the best that could be told for it."""
        for book, states, batches, start, goal in journeys(SMALL[::2], 547, 4):
            right = least_losses(book, batches, start, goal)
            every = helper.all_lots("abc")
            for many in (0, 1, 2):
                for losses in itertools.combinations(every, many):
                    plans = tuple(limited_plan(book, batches, start, goal, loss, lot("abc")) for loss in losses)
                    fences = tuple(limited_tops(book, batches, start, minus(lot("abc"), hitter), lot("abc"))
                                   for hitter in hitters_by_words(losses))
                    told = losses_told(book, batches, start, goal, losses, (plans, fences))
                    self.assertIs(told, losses == right)

    def test_spoilt_values(self):
        ask = (CLASH, lots("b c"), lot("ac"), lot("b"))
        losses, (plans, fences) = least_losses(*ask), loss_evidence(*ask)
        self.assertEqual((losses, len(plans), len(fences)), (lots("ac"), 1, 2))
        self.assertIs(losses_told(*ask, losses, (plans, fences)), True)
        self.assertIs(losses_told(value=(plans, fences), losses=losses, goal=lot("b"), start=lot("ac"),
                                  batches=list(lots("b c")), book=CLASH), True)
        for odd in helper.ODD_VALUES + (Weird(), (Weird(),), (), lot("ab"), (lot("a"), ())):
            self.assertIs(losses_told(*ask, odd, (plans, fences)), False, repr(odd))
            self.assertIs(losses_told(*ask, losses + (odd,), (plans, fences)), False, repr(odd))
            self.assertIs(losses_told(*ask, losses, odd), False, repr(odd))
            for value in ((odd, fences), (plans, odd), (plans, fences, odd), ((odd,), fences), (plans, (odd, odd)),
                          (plans, fences[:1] + (odd,)), (plans + (odd,), fences), (plans, fences + (odd,)),
                          (((odd,) + plans[0],), fences), ((plans[0] + (odd,),), fences),
                          (plans, (fences[0] + (odd,), fences[1]))):
                self.assertIs(losses_told(*ask, losses, value), False, repr(value))
        for value in ([plans, fences], (list(plans), fences), (plans, list(fences)), ((list(plans[0]),), fences),
                      (plans, (list(fences[0]), fences[1])), (plans, fences[::-1])):
            self.assertIs(losses_told(*ask, losses, value), False)
        self.assertIs(losses_told(*ask, list(losses), (plans, fences)), False)
        for names in (("z",), ("a", "c", "z"), ("a", "z")):
            self.assertIs(losses_told(*ask, (names,), (plans, fences[:1] * len(names))), False)
            self.assertIs(losses_told(*ask, losses + (names,), (plans * 2, fences)), False)
        self.assertIs(losses_told(*ask, lots("ac b"), (plans, fences)), False)
        longer = (lots("ac a - b bc b"),)
        self.assertIs(losses_told(*ask, losses, (longer, fences)), True)
        self.assertEqual(checked_plan(CLASH, longer[0]), longer[0])


if __name__ == "__main__":
    unittest.main()
