"""What the tests share: rulebooks to ask about, and answers worked out from the document's words alone.

Nothing here works out an answer with the package: it is used for its errors alone.
"""

import itertools
import random

from stopsfirst import errors

# Values of wholly other kinds, none of which is a lot of the services a, b, c, d.
ODD_VALUES = (
    None, True, False, 0, 1, -1, 7, 2.5, 1j, "", "a", "ab", "-", b"a", b"", object(), object, len, Ellipsis,
    [], ["a"], ["a", "b"], {}, {"a": True}, set(), {"a"}, frozenset("a"), range(3), iter(()),
    ("b", "a"), ("a", "a"), ("A",), ("z",), ("",), ("abcdef",), ("a", 1), (1,), (None,), (True,), (b"a",),
    (("a",),), (["a"],), ([],), ({},), ("a", ["b"]), ("a b",), ("a\n",), ("\u00e9",), (1.5,), (object(),),
)


class Weird:
    """A value that claims to be equal to everything, and cannot be a key."""

    __hash__ = None

    def __eq__(self, other):
        return True

    def __ne__(self, other):
        return False


def is_same(value, other):
    """Whether two values look alike, whatever they themselves claim: True is not 1, and a list is no tuple."""
    return repr(value) == repr(other)


def raised(call, *args, **more):
    """The class and the number of the error that a call raises, or the class alone; None if it raises none."""
    try:
        call(*args, **more)
    except errors.StopError as error:
        return (type(error), error.at) if hasattr(error, "at") else (type(error),)
    return None


def lot(text):
    """A lot of one-letter names: "ac" or, for the empty one, "-"."""
    return () if text == "-" else tuple(text)


def lots(text):
    """Several lots: "- a ac"."""
    return tuple(lot(word) for word in text.split())


def meet(a, b):
    return tuple(sorted(set(a) & set(b)))


def join(a, b):
    return tuple(sorted(set(a) | set(b)))


def minus(a, b):
    return tuple(sorted(set(a) - set(b)))


def part(a, b):
    return set(a) <= set(b)


def proper(a, b):
    return set(a) < set(b)


def all_lots(services):
    names = sorted(services)
    found = []
    for count in range(len(names) + 1):
        found.extend(itertools.combinations(names, count))
    return sorted(found)


def least(found):
    """Those within which no other one lies, ascending, each once."""
    return tuple(sorted({a for a in found if not any(proper(b, a) for b in found)}))


def greatest(found):
    return tuple(sorted({a for a in found if not any(proper(a, b) for b in found)}))


def rule_allows(rule, state):
    """What point [6] says of the five kinds of rules, word by word."""
    runs = set(state)
    if rule[0] == "imply":
        return not set(rule[1]) <= runs or bool(set(rule[2]) & runs)
    if rule[0] == "cap":
        return sum(number for name, number in rule[1] if name in runs) <= rule[2]
    if rule[0] == "cut":
        return sum(number for x, y, number in rule[1] if len({x, y} & runs) == 1) <= rule[2]
    if rule[0] == "feed":
        used = sum(number for name, number in rule[1] if name in runs)
        return used <= sum(number for name, number in rule[2] if name in runs) + rule[3]
    return {name for name in rule[1] if name in runs} in [set(told) for told in rule[2]]


def allowed(services, rules):
    return [state for state in all_lots(services) if all(rule_allows(rule, state) for rule in rules)]


def table_of(services, states):
    """The rules by which just these states are allowed."""
    return [("table", tuple(services), tuple(states))]


def between(states, low, high):
    return [x for x in states if part(low, x) and part(x, high)]


def middles(states, a, b):
    return [x for x in between(states, meet(a, b), a) if join(x, b) in states]


def bad_pairs(states):
    return [(a, b) for a in states for b in states if not middles(states, a, b)]


def is_bendable(states):
    return not bad_pairs(states)


def is_locked(states, a, b):
    if part(a, b):
        return False
    return between(states, meet(a, b), a) == [a] and between(states, b, join(a, b)) == [b]


def fits(batches, started):
    return batches is None or not started or any(part(started, batch) for batch in batches)


def random_rule(chance, services):
    """Any rule about the services, in no particular order."""
    kind = chance.choice(("imply", "imply", "cap", "cut", "feed", "table"))
    names = list(services)
    chance.shuffle(names)
    some = names[:chance.randrange(len(names) + 1)]
    if kind == "imply":
        other = [name for name in names if chance.random() < 0.4]
        return ("imply", some[:2], other)
    if kind == "cap":
        return ["cap", [[name, chance.randrange(4)] for name in some], chance.randrange(1, 6)]
    if kind == "cut":
        ends = [list(pair) for pair in itertools.combinations(names, 2) if chance.random() < 0.5]
        return ("cut", [pair + [chance.randrange(1, 4)] for pair in ends], chance.randrange(2, 6))
    if kind == "feed":
        at = chance.randrange(len(some) + 1)
        users = [(name, chance.randrange(4)) for name in some[:at]]
        return ["feed", users, [(name, chance.randrange(4)) for name in some[at:]], chance.randrange(-1, 4)]
    told = [part_lot for part_lot in all_lots(some) if chance.random() < 0.7]
    chance.shuffle(told)
    return ("table", some, told)


def random_books(seed, many, services="abcd", rules=3):
    """Pairs (services, rules): some by rules of all kinds, some by the states that are allowed."""
    chance = random.Random(seed)
    found = []
    for at in range(many):
        if at % 2:
            told = [random_rule(chance, services) for _ in range(chance.randrange(rules + 1))]
        else:
            share = chance.choice((0.2, 0.4, 0.6, 0.8))
            told = table_of(services, [x for x in all_lots(services) if chance.random() < share])
        found.append((tuple(services), told))
    return found


def bendable_books(seed, many, services="abcd"):
    """Only bendable ones of the random rulebooks, with at least two allowed states."""
    found = []
    for names, told in random_books(seed, many, services):
        states = allowed(names, told)
        if len(states) > 1 and is_bendable(states):
            found.append((names, told))
    return found


def random_plans(seed, states, many, longest=5):
    chance = random.Random(seed)
    return [tuple(chance.choice(states) for _ in range(chance.randrange(1, longest + 1))) for _ in range(many)]


def random_batches(seed, services, many):
    """None, no lots, the empty lot, single services, and batches of all kinds."""
    chance = random.Random(seed)
    every = all_lots(services)
    found = [None, (), [()], tuple((name,) for name in services)]
    while len(found) < many:
        found.append([chance.choice(every) for _ in range(chance.randrange(1, 4))])
    return found[:many]


def is_climb(states, plan, climb):
    """What point [25] says of a climb of a plan, word by word."""
    if len(climb) != len(plan) or any(c not in states for c in climb):
        return False
    if not part(climb[0], plan[0]) or not part(plan[-1], climb[-1]):
        return False
    for at in range(1, len(plan)):
        if not part(climb[at - 1], climb[at]):
            return False
        if not part(minus(climb[at], climb[at - 1]), minus(plan[at], plan[at - 1])):
            return False
    return True


def all_climbs(states, plan, keep_first=False, keep_last=False):
    """All climbs of a plan, ascending, from going through everything that could be one."""
    found = []
    for climb in itertools.product(states, repeat=len(plan)):
        if is_climb(states, plan, climb):
            if (not keep_first or climb[0] == plan[0]) and (not keep_last or climb[-1] == plan[-1]):
                found.append(climb)
    return found


def climb_ends(states, start, batches):
    """For each end of a state the least number of changes of a climb to it, by going through all climbs."""
    ends = {}
    level = [(state,) for state in states if part(state, start)]
    while level:
        for climb in level:
            ends.setdefault(climb[-1], len(climb) - 1)
        level = [climb + (state,) for climb in level for state in states
                 if proper(climb[-1], state) and fits(batches, minus(state, climb[-1]))]
    return ends


def tops(states, start, batches):
    return greatest(list(climb_ends(states, start, batches)))


def reached(states, start, batches, stops=False):
    """The least numbers of changes (that stop something) to all states that are reached, put right until they stay."""
    numbers = {start: 0}
    while True:
        before = dict(numbers)
        for a in list(numbers):
            for b in states:
                if fits(batches, minus(b, a)):
                    number = numbers[a] + (1 if not stops or not part(a, b) else 0)
                    numbers[b] = min(numbers.get(b, number), number)
        if numbers == before:
            return numbers


def check_states_then_batches(test, ask, many):
    """The errors of chapter 6, for a function of one or two states and batches.

    The rulebook that it asks about has the services a, b and c, and a and b may not run together.
    """
    good = [lot("a")] * many
    for odd in ODD_VALUES + (["a"], lot("ae"), Weird()):
        test.assertEqual(raised(ask, *[odd] * many, 5), (errors.InvalidState, 0), repr(odd))
        test.assertEqual(raised(ask, *good, [(), odd, 5]), (errors.InvalidBatches, 1), repr(odd))
        if many == 2:
            test.assertEqual(raised(ask, lot("ab"), odd, 5), (errors.InvalidState, 1), repr(odd))
    test.assertEqual(raised(ask, *[lot("ab")] * many, 5), (errors.NotAllowed, 0))
    if many == 2:
        test.assertEqual(raised(ask, (), lot("ab"), 5), (errors.NotAllowed, 1))
    for value in (True, False, 0, "", "ab", {}, {()}, object(), Weird()):
        test.assertEqual(raised(ask, *good, value), (errors.InvalidBatches, 0), repr(value))
    test.assertIsNone(raised(ask, *good, None))
