"""[43] to [45]: steps, which describe bendable families, and steps that describe a rulebook."""

import random
import unittest

from stopsfirst.derived import derive, is_step_of, step_kind, step_middle, step_services, step_states
from stopsfirst.errors import InvalidState, NotAllowed, Refused
from stopsfirst.rulebooks import Rulebook
from stopsfirst.rules import made_rule, names_of
from tests import helper
from tests.helper import Weird, join, lot, lots, meet, minus, part, raised
from tests.test_kinds import gap, lots_of
from tests.test_words import gap as led_gap, led, paper_by_words

FREE = ("led", lot("ab"), (), ())
TORN = Rulebook(lot("ab"), [("table", lot("ab"), lots("a b"))])


def services_by_words(step):
    word = step[0]
    if word in ("led", "one"):
        return tuple(sorted(step[1]))
    inner = services_by_words(step[1])
    if word == "hidden":
        return minus(inner, step[2])
    if word == "copy":
        return join(inner, (step[3],))
    return join(inner, services_by_words(step[2])) if word == "beside" else inner


def states_by_words(step):
    word = step[0]
    if word in ("led", "one"):
        return helper.allowed(step[1], step[2])
    inner = states_by_words(step[1])
    services = services_by_words(step[1])
    every = helper.all_lots(services)
    if word == "needs":
        return [state for state in inner if all(y in state for x, y in step[2] if x in state)]
    if word == "between":
        return [state for state in inner if part(step[2], state) and part(state, step[3])]
    if word == "hidden":
        return sorted({minus(state, step[2]) for state in inner})
    if word == "mirror":
        return sorted(minus(services, state) for state in inner)
    if word == "small":
        return [state for state in every if state in inner or any(part(state, told) for told in step[2])]
    if word == "great":
        return [state for state in every if state in inner or any(part(told, state) for told in step[2])]
    if word == "copy":
        return sorted(join(state, (step[3],)) if step[2] in state else state for state in inner)
    return sorted(join(one, other) for one in inner for other in states_by_words(step[2]))


def kind_by_words(step):
    word = step[0]
    if word == "led":
        return "meet" if not step[3] else "join" if step[3] == tuple(sorted(step[1])) else "any"
    if word == "one":
        return "either"
    inner = kind_by_words(step[1])
    if word == "mirror":
        return {"meet": "join", "join": "meet"}.get(inner, inner)
    if (word, inner) in (("small", "join"), ("great", "meet")):
        return "either"
    if word == "beside":
        return inner if inner == kind_by_words(step[2]) and inner in ("meet", "join") else "any"
    return inner


def middle_by_words(step, a, b):
    word = step[0]
    if word == "led":
        return led(step[3], a, b)
    if word in ("one", "needs"):
        return meet(a, b) if meet(a, b) in states_by_words(step) else a
    if word == "beside":
        sides = [services_by_words(inner) for inner in step[1:]]
        return join(*[middle_by_words(inner, meet(a, side), meet(b, side)) for inner, side in zip(step[1:], sides)])
    states = states_by_words(step[1])
    services = services_by_words(step[1])
    if word == "between":
        return middle_by_words(step[1], a, b)
    if word == "hidden":
        one, other = [[state for state in states if minus(state, step[2]) == told][0] for told in (a, b)]
        return minus(middle_by_words(step[1], one, other), step[2])
    if word == "mirror":
        one, other = minus(services, a), minus(services, b)
        return minus(services, join(one, middle_by_words(step[1], other, one)))
    if word in ("small", "great"):
        if a in states and b in states:
            return middle_by_words(step[1], a, b)
        return meet(a, b) if word == "small" else a
    middle = middle_by_words(step[1], minus(a, (step[3],)), minus(b, (step[3],)))
    return join(middle, (step[3],)) if step[2] in middle else middle


def random_leaf(chance, services):
    """A "led" or a "one" step, whatever the order in which services and rules are passed."""
    names = list(services)
    chance.shuffle(names)
    while True:
        rules = [helper.random_rule(chance, services) for _ in range(chance.randrange(3))]
        states = helper.allowed(services, rules)
        kept = [made_rule(tuple(sorted(services)), rule) for rule in rules]
        others = [rule for rule in kept if gap(lots_of(rule), "meet") or gap(lots_of(rule), "join")]
        if chance.random() < 0.4 and (not others or len(others) == 1 and not gap(lots_of(others[0]), "either")):
            return ("one", names, rules)
        leading = [told for told in helper.all_lots(services) if led_gap(states, told) is None]
        if leading:
            return ("led", tuple(names), tuple(rules), chance.choice(leading))


def some_lot(chance, services):
    return tuple(name for name in services if chance.random() < 0.5)


def some_lots(chance, services):
    return tuple(some_lot(chance, services) for _ in range(chance.randrange(3)))


def random_step(chance, services, depth):
    word = chance.choice(("needs", "between", "hidden", "mirror", "small", "great", "copy", "beside"))
    if depth == 0 or len(services) < 2:
        return random_leaf(chance, services)
    if word == "hidden":
        inner = random_step(chance, services, depth - 1)
        return ("hidden", inner, (chance.choice(services_by_words(inner)),)) if len(services) > 1 else inner
    if word == "copy":
        inner = random_step(chance, services[1:], depth - 1)
        there = services_by_words(inner)
        return ("copy", inner, chance.choice(there), chance.choice([name for name in "aez" if name not in there]))
    if word == "beside":
        at = chance.randrange(1, len(services))
        return ("beside", random_step(chance, services[:at], depth - 1), random_step(chance, services[at:], 0))
    inner = random_step(chance, services, depth - 1)
    there = services_by_words(inner)
    if word == "needs":
        if kind_by_words(inner) == "any":
            return inner
        return ("needs", inner, tuple((chance.choice(there), chance.choice(there)) for _ in range(chance.randrange(3))))
    if word == "between":
        return ("between", inner, some_lot(chance, there)[:1], some_lot(chance, there) if at_odds(chance) else there)
    return ("mirror", inner) if word == "mirror" else (word, inner, some_lots(chance, there))


def at_odds(chance):
    return chance.random() < 0.3


def random_steps(seed, many):
    chance = random.Random(seed)
    found = []
    while len(found) < many:
        step = random_step(chance, chance.choice(("abcd", "abc", "bcde")), chance.randrange(4))
        there = services_by_words(step)
        if there and len(set(there)) == len(there):
            try:
                sizes_fit(step)
            except ValueError:
                continue
            found.append(step)
    return found


def sizes_fit(step):
    """Steps beside each other must not share services; a copy's new name may have made them."""
    if step[0] == "beside" and set(services_by_words(step[1])) & set(services_by_words(step[2])):
        raise ValueError("shared")
    for inner in step[1:3] if step[0] == "beside" else step[1:2] if step[0] not in ("led", "one") else ():
        if step[0] == "hidden" and len(services_by_words(inner)) < 2:
            raise ValueError("nothing left")
        sizes_fit(inner)


STEPS = random_steps(431, 250)


class StepTest(unittest.TestCase):
    def test_by_words(self):
        words = set()
        for step in STEPS:
            self.assertEqual(step_services(step), services_by_words(step))
            self.assertEqual(step_states(step), tuple(states_by_words(step)), step)
            self.assertEqual(step_kind(step), kind_by_words(step), step)
            words.add((step[0], step_kind(step)))
        self.assertEqual({word for word, _ in words},
                         set("led one needs between hidden mirror small great copy beside".split()))
        self.assertGreater(len(words), 20)

    def test_states_are_closed_under_the_kind(self):
        for step in STEPS:
            states = list(step_states(step))
            self.assertTrue(helper.is_bendable(states))
            if step_kind(step) != "any":
                self.assertIsNone(gap(states, step_kind(step)))

    def test_middles(self):
        for step in STEPS[::2]:
            states = list(step_states(step))
            for a in states[::2]:
                for b in states[::3]:
                    told = step_middle(step, a, b)
                    self.assertEqual(told, middle_by_words(step, a, b))
                    self.assertIn(told, helper.middles(states, a, b))

    def test_by_hand(self):
        clash = ("one", ["b", "a"], [["imply", ["b", "a"], []]])
        self.assertEqual(step_states(clash), lots("- a b"))
        self.assertEqual(step_kind(clash), "either")
        some = ("led", lot("cd"), [("imply", (), lot("cd"))], lot("cd"))
        self.assertEqual(step_kind(step=some), "join")
        both = ("beside", clash, some)
        self.assertEqual(step_services(step=both), lot("abcd"))
        self.assertEqual(step_kind(both), "any")
        self.assertEqual(step_middle(both, lot("ac"), lot("bd")), lot("c"))
        self.assertEqual(step_middle(second=lot("bd"), first=lot("acd"), step=both), lot("cd"))
        self.assertEqual(step_states(("between", both, lot("a"), lot("acd"))), lots("ac acd ad"))
        self.assertEqual(step_states(("between", both, lot("ab"), lot("a"))), ())
        self.assertEqual(step_states(("hidden", both, lot("bc"))), lots("- a ad d"))
        self.assertEqual(step_states(("mirror", clash)), lots("a ab b"))
        self.assertEqual(step_states(("small", clash, lots("ab"))), lots("- a ab b"))
        self.assertEqual(step_states(("great", some, lots("-"))), lots("- c cd d"))
        self.assertEqual(step_states(("copy", clash, "a", "zz")), ((), ("a", "zz"), ("b",)))
        self.assertEqual(step_states(("needs", clash, (("a", "b"), ("a", "b")))), lots("- b"))
        self.assertEqual(step_states(("needs", clash, ())), lots("- a b"))
        self.assertEqual(step_states(("needs", clash, (("a", "a"),))), lots("- a b"))
        self.assertEqual(step_states(("led", lot("a"), [("imply", (), ())], lot("a"))), ())

    def test_kinds_by_hand(self):
        meets, joins = ("led", lot("a"), (), ()), ("led", lot("b"), (), lot("b"))
        self.assertEqual(step_kind(meets), "meet")
        self.assertEqual(step_kind(joins), "join")
        self.assertEqual(step_kind(("led", lot("ab"), (), lot("a"))), "any")
        self.assertEqual(step_kind(("beside", meets, joins)), "any")
        self.assertEqual(step_kind(("beside", ("mirror", meets), joins)), "join")
        self.assertEqual(step_kind(("beside", meets, ("mirror", joins))), "meet")
        self.assertEqual(step_kind(("beside", ("one", lot("a"), ()), ("one", lot("b"), ()))), "any")
        self.assertEqual(step_kind(("small", joins, ())), "either")
        self.assertEqual(step_kind(("small", meets, ())), "meet")
        self.assertEqual(step_kind(("great", meets, ())), "either")
        self.assertEqual(step_kind(("great", joins, ())), "join")
        self.assertEqual(step_kind(("mirror", ("one", lot("a"), ()))), "either")
        self.assertEqual(step_kind(("mirror", ("led", lot("ab"), (), lot("a")))), "any")


ONE_BAD = [("table", lot("abc"), lots("ab c"))]
TWO = [("imply", lot("ab"), lot("c")), ("imply", lot("a"), lot("bc"))]
PLAIN = [("imply", lot("a"), lot("b")), ("imply", (), lot("c")), ("cap", (("a", 1),), 1)]
ANY = ("led", lot("ab"), (), lot("a"))

# Values that are no steps at all, each with the number of the step that is wrong.
BAD = [
    (("led", lot("ab"), ()), 0), (("led", lot("ab"), (), (), ()), 0), (["led", lot("ab"), (), ()], 0), ((), 0),
    (("lead", lot("ab"), (), ()), 0), (("led", "ab", (), ()), 0), (("led", lot("aa"), (), ()), 0),
    (("led", lot("ab"), [("imply", ("z",), ())], ()), 0), (("led", lot("ab"), None, ()), 0),
    (("led", lot("ab"), (), lot("c")), 0), (("led", lot("ab"), (), ["a"]), 0), (("led", lot("ab"), (), lot("ba")), 0),
    (("led", lot("ab"), [("imply", (), lot("ab"))], lot("a")), 0),
    (("led", lot("ab"), [("imply", (), lot("ab"))], None), 0),
    (("led", (), (), ()), 0), (("led", tuple("abcdefghijk"), (), ()), 0),
    (("one", lot("abc"), ONE_BAD), 0), (("one", lot("abc"), TWO), 0), (("one", lot("abc")), 0),
    (("one", lot("abc"), 5), 0), (("one", lot("abc"), [5]), 0), (("one", None, ()), 0), (("one", lot("a"), (), ()), 0),
    (("needs", FREE, [("a", "b")]), 0), (("needs", FREE, (["a", "b"],)), 0), (("needs", FREE, (("a", "c"),)), 0),
    (("needs", FREE, (("a", "b", "a"),)), 0), (("needs", FREE, (("a", "b"), 5)), 0), (("needs", FREE, None), 0),
    (("needs", ANY, ()), 0), (("needs", FREE, lot("ab")), 0), (("needs", FREE), 0), (("needs", 5, ()), 1),
    (("between", FREE, (), lot("abc")), 0), (("between", FREE, lot("c"), lot("ab")), 0), (("between", FREE, ()), 0),
    (("between", FREE, (), ["a"]), 0), (("between", FREE, lot("ba"), lot("ab")), 0), (("between", (), (), ()), 1),
    (("hidden", FREE, ()), 0), (("hidden", FREE, lot("ab")), 0), (("hidden", FREE, lot("c")), 0),
    (("hidden", FREE, "a"), 0), (("hidden", FREE, ["a"]), 0), (("hidden", [], lot("a")), 1), (("hidden", FREE), 0),
    (("mirror", FREE, ()), 0), (("mirror",), 0), (("mirror", 5), 1), (("mirror", ("mirror", ("mirror", None))), 3),
    (("small", FREE, [lot("a")]), 0), (("small", FREE, (lot("c"),)), 0), (("small", FREE, lot("a")), 0),
    (("small", FREE, (["a"],)), 0), (("small", FREE, None), 0), (("small", None, ()), 1), (("small", FREE), 0),
    (("great", FREE, [lot("a")]), 0), (("great", FREE, (lot("ba"),)), 0), (("great", FREE, lot("a")), 0),
    (("great", FREE, ((), None)), 0), (("great", "led", ()), 1), (("great", FREE, (), ()), 0),
    (("copy", FREE, "c", "d"), 0), (("copy", FREE, "a", "b"), 0), (("copy", FREE, "a", "a"), 0),
    (("copy", FREE, "a", "A"), 0), (("copy", FREE, "a", "abcdef"), 0), (("copy", FREE, "a", 5), 0),
    (("copy", FREE, ("a",), "c"), 0), (("copy", FREE, None, "c"), 0), (("copy", 5, "a", "c"), 1),
    (("copy", FREE, "a"), 0), (("beside", FREE, FREE), 0), (("beside", FREE, ("led", lot("bc"), (), ())), 0),
    (("beside", FREE), 0), (("beside", FREE, FREE, FREE), 0), (("beside", 5, 5), 1), (("beside", FREE, 5), 2),
    (("beside", ("mirror", FREE), ("hidden", FREE, ())), 3),
    (("beside", ("beside", FREE, ("one", lot("cd"), ())), ("mirror", ("needs", ANY, ()))), 5),
    (("beside", ("beside", FREE, FREE), ("mirror", 5)), 1), (("beside", ("mirror", FREE), ("mirror", ("one",))), 4),
    (("needs", ("hidden", ("mirror", ("led",)), lot("a")), 5), 3), (("needs", ("hidden", FREE, lot("c")), 5), 1),
]


class RefusedTest(unittest.TestCase):
    def asks(self):
        yield step_services
        yield step_states
        yield step_kind
        yield lambda step: step_middle(step, None, None)
        yield lambda step: is_step_of(step, TORN)

    def test_bad_steps(self):
        for step, at in BAD:
            for ask in self.asks():
                self.assertEqual(raised(ask, step), (Refused, at), step)

    def test_odd_values(self):
        for odd in helper.ODD_VALUES + (Weird(), (Weird(),), (Weird(), 1, 2, 3), ("led", Weird(), Weird(), Weird())):
            for ask in self.asks():
                self.assertEqual(raised(ask, odd), (Refused, 0), repr(odd))
                self.assertEqual(raised(ask, ("mirror", odd)), (Refused, 1), repr(odd))
                self.assertEqual(raised(ask, ("beside", ("mirror", FREE), odd)), (Refused, 3), repr(odd))
                if raised(Rulebook, odd, ()):
                    self.assertEqual(raised(ask, ("led", odd, (), ())), (Refused, 0), repr(odd))
                    self.assertEqual(raised(ask, ("one", odd, ())), (Refused, 0), repr(odd))
                if raised(Rulebook, lot("ab"), odd):
                    self.assertEqual(raised(ask, ("led", lot("ab"), odd, ())), (Refused, 0), repr(odd))
                self.assertEqual(raised(ask, ("hidden", FREE, odd)), (Refused, 0), repr(odd))
                self.assertEqual(raised(ask, ("small", FREE, (odd,))), (Refused, 0), repr(odd))
                self.assertEqual(raised(ask, ("great", FREE, (odd,))), (Refused, 0), repr(odd))
                self.assertEqual(raised(ask, ("between", FREE, odd, lot("ab"))), (Refused, 0), repr(odd))
                self.assertEqual(raised(ask, ("between", FREE, (), odd)), (Refused, 0), repr(odd))
                if odd.__class__ is not tuple or not set("ab") >= set(map(str, odd)):
                    self.assertEqual(raised(ask, ("needs", FREE, (odd,))), (Refused, 0), repr(odd))
                if odd.__class__ is not str:
                    self.assertEqual(raised(ask, ("needs", FREE, (("a", odd),))), (Refused, 0), repr(odd))
                    self.assertEqual(raised(ask, ("copy", FREE, odd, "c")), (Refused, 0), repr(odd))
                    self.assertEqual(raised(ask, ("copy", FREE, "a", odd)), (Refused, 0), repr(odd))

    def test_right_ones_are_let(self):
        for step in (("one", lot("abc"), PLAIN + TWO[:1]), ("one", lot("abc"), PLAIN), ("one", lot("abc"), ()),
                     ("led", ["b", "a"], [], ()), ("hidden", FREE, lot("a")), ("copy", FREE, "a", "c"),
                     ("small", FREE, ((), ())), ("great", FREE, lots("a a"))):
            self.assertIsNone(raised(step_kind, step))

    def test_states_behind_the_step(self):
        step = ("between", FREE, (), lot("a"))
        for odd in helper.ODD_VALUES + (["a"], lot("abc"), Weird(), (Weird(),)):
            self.assertEqual(raised(step_middle, step, odd, odd), (InvalidState, 0), repr(odd))
            self.assertEqual(raised(step_middle, step, lot("b"), odd), (InvalidState, 1), repr(odd))
        self.assertEqual(raised(step_middle, step, lot("b"), lot("ab")), (NotAllowed, 0))
        self.assertEqual(raised(step_middle, step, lot("a"), lot("ab")), (NotAllowed, 1))
        self.assertEqual(raised(step_middle, ("hidden", FREE, lot("a")), lot("b"), lot("a")), (InvalidState, 1))


def derived_by_words(services, rules):
    """What [45] says, by the papers and gaps that the tests work out."""
    services = tuple(sorted(services))
    states = helper.allowed(services, rules)
    kept = tuple(made_rule(services, rule) for rule in rules)
    paper = paper_by_words(services, states)
    if paper[0] == "sources":
        return ("led", services, kept, paper[1])
    others = [rule for rule in kept if gap(lots_of(rule), "meet") or gap(lots_of(rule), "join")]
    if len(others) == 1 and not gap(lots_of(others[0]), "either") or not others:
        return ("one", services, kept)
    blocks = {frozenset(name) for name in services}
    for rule in kept:
        touched = {block for block in blocks if block & set(names_of(rule))}
        blocks = (blocks - touched) | ({frozenset().union(*touched)} if touched else set())
    blocks = sorted(tuple(sorted(block)) for block in blocks)
    if len(blocks) == 1:
        return None
    found = []
    for at, block in enumerate(blocks):
        about = [rule for rule in kept if set(names_of(rule)) & set(block) or not names_of(rule) and at == 0]
        found.append(derived_by_words(block, about))
    if None in found:
        return None
    step = found.pop()
    while found:
        step = ("beside", found.pop(), step)
    return step


class DeriveTest(unittest.TestCase):
    def books(self):
        yield from helper.random_books(451, 60)
        chance = random.Random(452)
        for at in range(60):
            sizes = ((2, 3), (3, 3), (2, 4))[at % 3]
            one, other = "abcdef"[:sizes[0]], "abcdef"[sizes[0]:sum(sizes)]
            rules = [helper.random_rule(chance, part_of) for part_of in (one, other) for _ in range(2)]
            chance.shuffle(rules)
            yield tuple(one + other), rules + [("imply", ("a",), ("a",))] * (at % 2) + [("cap", (), 1)] * (at % 2)

    def test_by_words(self):
        found = set()
        for services, rules in self.books():
            book = Rulebook(services, rules)
            told = derive(book)
            self.assertEqual(told, derived_by_words(services, rules))
            found.add(told and told[0])
            if told is not None:
                self.assertIs(is_step_of(told, book), True)
                self.assertEqual(step_states(told), book.states())
        self.assertEqual(found, {None, "led", "one", "beside"})

    def test_blocks(self):
        rules = [("imply", (), lot("ef")), ("imply", lot("ab"), ()), ("imply", lot("ef"), ()),
                 ("imply", (), lot("ab")), ("imply", lot("cd"), ())]
        book = Rulebook(lot("abcdef"), rules)
        self.assertIsNone(derive(book))
        rules = [("imply", lot("a"), lot("bc")), ("cap", (("d", 1), ("e", 1)), 1), ("imply", lot("ab"), lot("c")),
                 ("table", lot("de"), lots("- d e")), ("cap", (), 4), ("imply", lot("ac"), lot("b")),
                 ("imply", (), lot("abc")), ("cut", (("a", "b", 1), ("b", "c", 1)), 1)]
        for at in range(1, len(rules)):
            book = Rulebook(lot("abcdef"), rules[:at])
            self.assertEqual(derive(book), derived_by_words(book.services, rules[:at]))

    def test_three_blocks(self):
        """Two tables closed under either that no sources lead, and a service about which there is no rule."""
        every = helper.all_lots("abc")
        tables = [helper.table_of("abc", [state for k, state in enumerate(every) if chosen >> k & 1])[0]
                  for chosen in range(256)]
        tables = [rule for rule in tables if (derived_by_words("abc", [rule]) or " ")[0] == "one"]
        self.assertGreater(len(tables), 1)
        for one, other in zip(tables, tables[1:]):
            there = ("table", lot("def"), tuple(tuple("def"["abc".index(name)] for name in told) for told in other[2]))
            book = Rulebook(lot("abcdefg"), [there, ("table", (), [()]), one])
            first = ("one", lot("abc"), (("table", (), ((),)), made_rule(lot("abc"), one)))
            last = ("beside", ("one", lot("def"), (made_rule(lot("def"), there),)), ("led", lot("g"), (), ()))
            self.assertEqual(derive(book), ("beside", first, last))
            self.assertIs(is_step_of(derive(book), book), True)

    def test_by_hand(self):
        self.assertEqual(derive(Rulebook(lot("ab"), [])), ("led", lot("ab"), (), ()))
        self.assertIsNone(derive(TORN))
        self.assertEqual(derive(book=Rulebook(lot("ab"), [("imply", (), lot("ab"))])),
                         ("led", lot("ab"), (("imply", (), lot("ab")),), lot("ab")))
        self.assertEqual(derive(Rulebook(lot("ab"), [("imply", (), ())]))[0], "led")


class IsStepOfTest(unittest.TestCase):
    def test_services_and_states(self):
        clash = Rulebook(lot("ab"), [("imply", lot("ab"), ())])
        self.assertIs(is_step_of(("one", ["b", "a"], clash.rules), clash), True)
        self.assertIs(is_step_of(book=clash, step=("mirror", ("led", lot("ab"), [("imply", (), lot("ab"))], lot("ab")))),
                      True)
        self.assertIs(is_step_of(FREE, clash), False)
        self.assertIs(is_step_of(("hidden", ("copy", FREE, "a", "c"), lot("c")), Rulebook(lot("ab"), [])), True)
        self.assertIs(is_step_of(("copy", FREE, "a", "c"), Rulebook(lot("ab"), [])), False)
        self.assertIs(is_step_of(("between", FREE, lot("a"), ()), Rulebook(lot("ab"), [("imply", (), ())])), True)
        self.assertIs(is_step_of(("led", lot("cd"), (), ()), Rulebook(lot("ab"), [])), False)
        self.assertIs(is_step_of(("led", lot("c"), [("imply", (), ())], ()), Rulebook(lot("ab"), [("imply", (), ())])),
                      False)

    def test_random_steps(self):
        for step in STEPS[:60]:
            services = services_by_words(step)
            states = states_by_words(step)
            if len(services) <= 5:
                self.assertIs(is_step_of(step, Rulebook(services, helper.table_of(services, states))), True)
                fewer = [state for state in states if state != states[-1]]
                if states:
                    self.assertIs(is_step_of(step, Rulebook(services, helper.table_of(services, fewer))), False)


if __name__ == "__main__":
    unittest.main()
