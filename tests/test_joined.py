"""[82] to [85]: rulebooks side by side, free lots, blocks, and plans block by block."""

import itertools
import math
import random
import unittest

from stopsfirst.court import is_bendable
from stopsfirst.errors import InvalidBatches, InvalidQuestion, InvalidState, NotAllowed
from stopsfirst.joined import (
    Blocks, block_plan, block_stuck, blocks_hold, free_lots, mix, side_by_side, stuck_holds, unmixed,
)
from stopsfirst.plans import wrong_change
from stopsfirst.rulebooks import Rulebook
from tests import helper
from tests.helper import Weird, fits, join, lot, lots, meet, minus, part, raised

CLASH = Rulebook(lot("abcd"), [("imply", lot("ab"), ()), ("imply", (), lot("cd"))])
ODD_NAMES = helper.ODD_VALUES + (["a"], lot("az"), Weird(), (Weird(),))


def composed_books(seed, many):
    """Rulebooks of four services that fall into blocks: random tables of some lots of services, put together."""
    chance = random.Random(seed)
    found = []
    while len(found) < many:
        services = list("abcd")
        chance.shuffle(services)
        cut = chance.choice((1, 2, 3, 4))
        rules = []
        for names in (services[:cut], services[cut:]):
            told = [one for one in helper.all_lots(names) if chance.random() < 0.6]
            rules.append(("table", names, told))
        if helper.allowed("abcd", rules):
            found.append((tuple("abcd"), rules))
    return found


BOOKS = [told for told in helper.random_books(821, 30) if helper.allowed(*told)] + composed_books(822, 30)


def mix_by_words(names, a, b):
    return join(meet(names, a), minus(b, names))


def is_free(states, names):
    return all(mix_by_words(names, a, b) in states for a in states for b in states)


def blocks_by_words(states, services):
    free = [names for names in helper.all_lots(services) if names and is_free(states, names)]
    return helper.least(free)


class SideTest(unittest.TestCase):
    def test_by_words(self):
        chance = random.Random(823)
        ones = helper.random_books(824, 20, "abd")
        others = helper.random_books(825, 20, "ce")
        found = set()
        for (services, rules), (more, further) in zip(ones, others):
            one, other = Rulebook(services, rules), Rulebook(more, further)
            told = side_by_side(one, other) if chance.random() < 0.5 else side_by_side(other=other, one=one)
            self.assertEqual(told.services, lot("abcde"))
            self.assertEqual(told.rules, one.rules + other.rules)
            states = [join(a, b) for a in one.states() for b in other.states()]
            self.assertEqual(told.states(), tuple(sorted(states)))
            if states:
                self.assertIs(is_bendable(told), is_bendable(one) and is_bendable(other))
                found.add(is_bendable(told))
        self.assertEqual(found, {True, False})

    def test_shared_services(self):
        one = Rulebook(lot("ab"), [])
        self.assertEqual(raised(side_by_side, one, Rulebook(lot("bc"), [])), (InvalidQuestion, 1))
        self.assertEqual(raised(side_by_side, one, one), (InvalidQuestion, 1))

    def test_mix(self):
        for names, one, other in itertools.product(helper.all_lots("abc"), repeat=3):
            self.assertEqual(mix(names, one, other), mix_by_words(names, one, other))
        self.assertEqual(mix(other=lot("bz"), one=lot("ab"), names=lot("a")), lot("abz"))


class FreeTest(unittest.TestCase):
    def test_by_words(self):
        seen = set()
        for services, rules in BOOKS + [(tuple("abc"), [("imply", (), ())])]:
            states = helper.allowed(services, rules)
            book = Rulebook(services, rules)
            free = []
            for names in helper.all_lots(services):
                pairs = [(a, b) for a in states for b in states if mix_by_words(names, a, b) not in states]
                self.assertEqual(unmixed(book, names), pairs[0] if pairs else None)
                if not pairs:
                    free.append(names)
            self.assertEqual(free_lots(book), tuple(free))
            seen.add(len(free))
        self.assertLessEqual({2, 4, 8}, seen)

    def test_by_hand(self):
        self.assertEqual(free_lots(book=CLASH), lots("- ab abcd cd"))
        self.assertIsNone(unmixed(names=lot("cd"), book=CLASH))
        self.assertEqual(unmixed(CLASH, lot("a")), (lot("ac"), lot("bc")))

    def test_errors(self):
        for odd in ODD_NAMES:
            self.assertEqual(raised(unmixed, CLASH, odd), (InvalidQuestion, 1), repr(odd))


class BlocksTest(unittest.TestCase):
    def test_by_words(self):
        counts = set()
        for services, rules in BOOKS:
            states = helper.allowed(services, rules)
            book = Rulebook(services, rules)
            told = Blocks(book)
            self.assertIs(told.book, book)
            self.assertEqual(told.blocks, blocks_by_words(states, services))
            self.assertEqual(sorted(name for block in told.blocks for name in block), sorted(services))
            factors = tuple(tuple(sorted({meet(block, state) for state in states})) for block in told.blocks)
            self.assertEqual(told.factors, factors)
            put = sorted(tuple(sorted(sum(parts, ()))) for parts in itertools.product(*told.factors))
            self.assertEqual(put, states)
            for at, block in enumerate(told.blocks):
                self.assertEqual(told.part_book(at), Rulebook(block, [("table", block, factors[at])]))
            self.assertIs(is_bendable(book), all(is_bendable(told.part_book(at)) for at in range(len(factors))))
            self.assertEqual(told.witnesses(), self.witnesses(states, told.blocks))
            self.assertIs(blocks_hold(book, told.blocks, told.factors, told.witnesses()), True)
            counts.add(len(told.blocks))
        self.assertEqual(counts, {1, 2, 3, 4})

    def witnesses(self, states, blocks):
        found = []
        for block in blocks:
            for names in helper.all_lots(block):
                if names != block and block[0] in names:
                    pairs = ((a, b) for a in states for b in states if mix_by_words(names, a, b) not in states)
                    found.append((names, *next(pairs)))
        return tuple(found)

    def test_parts(self):
        told = Blocks(CLASH)
        self.assertEqual(told.blocks, lots("ab cd"))
        self.assertEqual(told.factors, (lots("- a b"), lots("c cd d")))
        self.assertEqual(told.parts(lot("abd")), lots("ab d"))
        self.assertEqual(told.parts(state=()), ((), ()))
        for odd in ODD_NAMES:
            if odd != () or isinstance(odd, Weird):
                self.assertEqual(raised(told.parts, odd), (InvalidState, 0), repr(odd))

    def test_put(self):
        told = Blocks(CLASH)
        self.assertEqual(told.put(lots("a cd")), lot("acd"))
        self.assertEqual(told.put(parts=[(), lot("d")]), lot("d"))
        for odd in (None, 0, "ab", {(): 1}, {()}, (), [], [()], ((), ("c",), ()), Weird(), object()):
            self.assertEqual(raised(told.put, odd), (InvalidQuestion, 0), repr(odd))
        for odd in ODD_NAMES + (lot("ab"), lot("c")):
            self.assertEqual(raised(told.put, (odd, None)), (InvalidState, 0), repr(odd))
            if odd != lot("c"):
                self.assertEqual(raised(told.put, [lot("a"), odd]), (InvalidState, 1), repr(odd))
        self.assertEqual(raised(told.put, lots("a -")), (InvalidState, 1))

    def test_part_books(self):
        told = Blocks(CLASH)
        self.assertEqual(told.part_book(at=1), Rulebook(lot("cd"), [("table", lot("cd"), lots("c cd d"))]))
        for odd in (None, True, False, -1, 2, 1.0, "0", (), Weird(), object()):
            self.assertEqual(raised(told.part_book, odd), (InvalidQuestion, 0), repr(odd))

    def test_one_block_of_all_and_blocks_of_one(self):
        alone = Blocks(Rulebook(lot("abc"), []))
        self.assertEqual((alone.blocks, alone.witnesses()), (lots("a b c"), ()))
        whole = Blocks(Rulebook(lot("abc"), [("table", lot("abc"), lots("a b"))]))
        self.assertEqual(whole.blocks, lots("ab c"))
        self.assertEqual(whole.witnesses(), ((lot("a"), lot("a"), lot("b")),))
        one = Blocks(Rulebook(lot("abc"), [("table", lot("abc"), lots("a b c"))]))
        self.assertEqual(one.blocks, lots("abc"))
        self.assertEqual([told[0] for told in one.witnesses()], [*lots("a ab ac")])
        self.assertEqual(Blocks(Rulebook(lot("a"), [("imply", (), lot("a"))])).factors, ((lot("a"),),))

    def test_no_state(self):
        self.assertEqual(raised(Blocks, Rulebook(lot("ab"), [("imply", (), ())])), (InvalidQuestion, 0))


class HoldTest(unittest.TestCase):
    def test_other_witnesses(self):
        """Any two states whose mix is not allowed will do."""
        for services, rules in BOOKS[:20]:
            states = helper.allowed(services, rules)
            book = Rulebook(services, rules)
            told = Blocks(book)
            good = told.witnesses()
            for at, (names, _, _) in enumerate(good):
                for a, b in itertools.product(states, repeat=2):
                    other = good[:at] + ((names, a, b),) + good[at + 1:]
                    right = mix_by_words(names, a, b) not in states
                    self.assertIs(blocks_hold(book, told.blocks, told.factors, other), right)

    def test_no_other_blocks(self):
        """All ways to put services into blocks, with the parts that states have there and as many witnesses as fit."""
        for services, rules in composed_books(826, 12):
            states = helper.allowed(services, rules)
            book = Rulebook(services, rules)
            told = Blocks(book)
            held = []
            for many in range(1, 5):
                for blocks in itertools.combinations(helper.all_lots(services)[1:], many):
                    if sorted(sum(blocks, ())) != sorted(services):
                        continue
                    factors = tuple(tuple(sorted({meet(block, state) for state in states})) for block in blocks)
                    names = [one for block in blocks for one in helper.all_lots(block)
                             if one != block and block[0] in one]
                    pairs = [[(one, a, b) for a in states for b in states
                              if mix_by_words(one, a, b) not in states] for one in names]
                    if all(pairs):
                        witnesses = tuple(found[0] for found in pairs)
                        if blocks_hold(book, blocks, factors, witnesses):
                            held.append((blocks, factors))
            self.assertEqual(held, [(told.blocks, told.factors)])

    def test_spoilt_values(self):
        told = Blocks(CLASH)
        good = (told.blocks, told.factors, told.witnesses())
        self.assertIs(blocks_hold(witnesses=good[2], factors=good[1], blocks=good[0], book=CLASH), True)
        odds = helper.ODD_VALUES + (Weird(), (Weird(),), (Weird(), Weird()), ())
        for at in range(3):
            for odd in odds + (list(good[at]), good[at][::-1], good[at] + good[at][-1:], good[at][:1]):
                told = good[:at] + (odd,) + good[at + 1:]
                self.assertIs(blocks_hold(CLASH, *told), False, repr(odd))
            for place in range(len(good[at])):
                for odd in odds + (list(good[at][place]),):
                    told = good[:at] + (good[at][:place] + (odd,) + good[at][place + 1:],) + good[at + 1:]
                    self.assertIs(blocks_hold(CLASH, *told), False, repr(odd))
        for factor in (lots("- a"), lots("- a ab b"), lots("a - b"), lots("- a a b"), list(lots("- a b"))):
            self.assertIs(blocks_hold(CLASH, good[0], (factor, good[1][1]), good[2]), False)
        for first, (names, a, b) in enumerate(good[2]):
            for odd in ((names, b), (names, a, b, ()), [names, a, b], (list(names), a, b), (names, list(a), b),
                        (names, a, list(b)), (names, a, a), (Weird(), a, b), (names, Weird(), b), (names, a, Weird()),
                        (lot("b"), a, b), (names, lot("ab"), b), (names, a, lot("abc")), (names, a, None)):
                spoilt = good[2][:first] + (odd,) + good[2][first + 1:]
                self.assertIs(blocks_hold(CLASH, good[0], good[1], spoilt), False, repr(odd))
        more = (((),) + good[0], (((),),) + good[1], good[2])
        self.assertIs(blocks_hold(CLASH, *more), False)
        never = Rulebook(lot("ab"), [("imply", (), ())])
        self.assertIs(blocks_hold(never, lots("a b"), ((), ()), ()), False)
        self.assertIs(blocks_hold(CLASH, lots("a b cd"), (lots("- a"), lots("- b"), good[1][1]), good[2]), False)


def questions(seed, many):
    chance = random.Random(seed)
    for services, rules in BOOKS:
        states = helper.allowed(services, rules)
        kinds = helper.random_batches(chance.random(), services, 9)
        for _ in range(many):
            yield Rulebook(services, rules), states, chance.choice(states), chance.choice(states), chance.choice(kinds)


def parts_of(batches, block):
    return None if batches is None else [meet(batch, block) for batch in batches]


class PlanTest(unittest.TestCase):
    def test_by_words(self):
        found = set()
        for book, states, start, goal, batches in questions(827, 8):
            plan = block_plan(book, start, goal, batches)
            stuck = block_stuck(book, start, goal, batches)
            reached = goal in helper.reached(states, start, batches)
            self.assertEqual((plan is not None, stuck is None), (reached, reached))
            blocks = blocks_by_words(states, book.services)
            if plan is not None:
                self.check_plan(book, states, start, goal, batches, blocks, plan)
            else:
                self.assertEqual(stuck, self.stuck(states, start, goal, batches, blocks))
                self.assertIs(stuck_holds(book, start, goal, batches, stuck), True)
            found.add(len(plan) if plan else None)
        self.assertLessEqual({None, 1, 2, 3, 4}, found)

    def check_plan(self, book, states, start, goal, batches, blocks, plan):
        self.assertIs(type(plan), tuple)
        self.assertEqual((plan[0], plan[-1]), (start, goal))
        self.assertIsNone(wrong_change(book, plan, batches))
        turns = []
        for before, behind in zip(plan, plan[1:]):
            turns.append([at for at, block in enumerate(blocks) if meet(block, before) != meet(block, behind)])
        self.assertTrue(all(len(turn) == 1 for turn in turns))
        order = [turn[0] for turn in turns]
        self.assertEqual(order, sorted(order))
        for at, block in enumerate(blocks):
            factor = sorted({meet(block, state) for state in states})
            numbers = helper.reached(factor, meet(block, start), parts_of(batches, block))
            self.assertEqual(order.count(at), numbers[meet(block, goal)])

    def stuck(self, states, start, goal, batches, blocks):
        for at, block in enumerate(blocks):
            factor = sorted({meet(block, state) for state in states})
            numbers = helper.reached(factor, meet(block, start), parts_of(batches, block))
            if meet(block, goal) not in numbers:
                return (at, tuple(sorted(numbers)))
        return None

    def test_by_hand(self):
        self.assertEqual(block_plan(CLASH, lot("ac"), lot("bd"), None), lots("ac bc bd"))
        self.assertEqual(block_plan(batches=lots("bd"), goal=lot("bd"), start=lot("ac"), book=CLASH), lots("ac bc bd"))
        self.assertEqual(block_plan(CLASH, lot("ac"), lot("ac"), ()), lots("ac"))
        self.assertIsNone(block_stuck(CLASH, lot("ac"), lot("ac"), ()))
        self.assertIsNone(block_plan(CLASH, lot("ac"), lot("bd"), lots("b")))
        self.assertEqual(block_stuck(CLASH, lot("ac"), lot("bd"), lots("b")), (1, lots("c")))
        self.assertEqual(block_stuck(batches=(), goal=lot("bd"), start=lot("ac"), book=CLASH), (0, lots("- a")))

    def right(self, states, start, goal, batches, blocks, paper):
        at, told = paper
        factor = sorted({meet(blocks[at], state) for state in states})
        if list(told) != sorted(set(told)) or not set(told) <= set(factor):
            return False
        if meet(blocks[at], start) not in told or meet(blocks[at], goal) in told:
            return False
        return all(b in told for a in told for b in factor if fits(parts_of(batches, blocks[at]), minus(b, a)))

    def test_papers(self):
        chance = random.Random(828)
        found = set()
        for book, states, start, goal, batches in questions(829, 10):
            blocks = blocks_by_words(states, book.services)
            at = chance.randrange(len(blocks))
            factor = sorted({meet(blocks[at], state) for state in states})
            for _ in range(4):
                paper = (at, tuple(one for one in factor if chance.random() < 0.6))
                right = self.right(states, start, goal, batches, blocks, paper)
                self.assertIs(stuck_holds(book, start, goal, batches, paper), right)
                found.add(right)
                if right:
                    self.assertNotIn(goal, helper.reached(states, start, batches))
        self.assertEqual(found, {True, False})

    def test_spoilt_papers(self):
        ask = (CLASH, lot("ac"), lot("bd"), ())
        good = (0, lots("- a"))
        self.assertIs(stuck_holds(paper=good, batches=(), goal=lot("bd"), start=lot("ac"), book=CLASH), True)
        for odd in helper.ODD_VALUES + (Weird(), (Weird(),), (), good[:1], good + ((),), list(good), good[::-1],
                                        (False, good[1]), (0.0, good[1]), (-2, good[1]), (2, good[1]), (1, good[1]),
                                        (Weird(), good[1]), (0, lots("a -")), (0, lots("- a a")), (0, lots("- a ab"))):
            self.assertIs(stuck_holds(*ask, odd), False, repr(odd))
            self.assertIs(stuck_holds(*ask, (0, odd)), False, repr(odd))
            self.assertIs(stuck_holds(*ask, (0, good[1] + (odd,))), False, repr(odd))
        self.assertIs(stuck_holds(*ask, (0, list(good[1]))), False)
        self.assertIs(stuck_holds(*ask, (True, lots("c"))), False)
        self.assertIs(stuck_holds(*ask, (1, lots("c"))), True)

    def test_errors(self):
        asks = (block_plan, block_stuck, lambda *told: stuck_holds(*told, None))
        for ask in asks:
            for odd in ODD_NAMES:
                self.assertEqual(raised(ask, CLASH, odd, odd, 5), (InvalidState, 0), repr(odd))
                self.assertEqual(raised(ask, CLASH, lot("ab"), odd, 5), (InvalidState, 1), repr(odd))
                self.assertEqual(raised(ask, CLASH, lot("c"), lot("d"), [(), odd, 5]), (InvalidBatches, 1), repr(odd))
            self.assertEqual(raised(ask, CLASH, lot("ab"), (), 5), (NotAllowed, 0))
            self.assertEqual(raised(ask, CLASH, lot("c"), (), 5), (NotAllowed, 1))
            for odd in (True, 0, "ab", {()}, Weird(), object()):
                self.assertEqual(raised(ask, CLASH, lot("c"), lot("d"), odd), (InvalidBatches, 0), repr(odd))

    def test_number_of_states(self):
        for services, rules in BOOKS:
            told = Blocks(Rulebook(services, rules))
            self.assertEqual(math.prod(map(len, told.factors)), len(helper.allowed(services, rules)))
            self.assertTrue(all(part(block, services) for block in told.blocks))


if __name__ == "__main__":
    unittest.main()
