"""Sources that lead a rulebook, and what shows that none do."""

from stopsfirst.basics import is_service, is_tuple_of, is_word
from stopsfirst.errors import InvalidQuestion
from stopsfirst.grids import lot_mask
from stopsfirst.lots import common, united
from stopsfirst.primes import prime_rules
from stopsfirst.rules import names_of


def led_middle(sources, first, second):
    return united(common(sources, first), common(first, second))


def misfit(book, sources):
    grid = book.grid()
    return misfit_of(grid, lot_mask(grid, sources, 0))


def misfit_of(grid, sources):
    """The first pair of allowed states for which the led middle is none, or None."""
    for a in grid.running:
        for b in grid.running:
            middle = sources & a | a & b
            if not grid.allowed[middle] or not grid.allowed[middle | b]:
                return grid.in_turn((a, b))
    return None


class Wording:
    """What the prime rules of a rulebook say of sources and ways.

    `wide` has the services that stand beside others in `ys`: they have to be sources. `narrow` has those that stand
    beside others in `xs`: none of them may be one. `needs` has, for each service, those that run whenever it does:
    they have to be sources if it is one.
    """

    def __init__(self, book):
        rules = prime_rules(book)
        self.services = book.services
        self.wide = in_one([rule[2] for rule in rules if len(rule[2]) > 1])
        self.narrow = in_one([rule[1] for rule in rules if len(rule[1]) > 1])
        self.needs = {name: needs_of(rules, name) for name in book.services}


def in_one(lots):
    """The names that are in one of some lots, ascending."""
    return tuple(sorted(set([name for lot in lots for name in lot])))


def needs_of(rules, name):
    return tuple([rule[2][0] for rule in rules if rule[1] == (name,) and len(rule[2]) == 1])


def source_paper(book):
    wording = Wording(book)
    sources = least_sources(wording)
    if common(sources, wording.narrow) == ():
        return ("sources", sources)
    return ("way", first_shortest_way(wording))


def least_sources(wording):
    """The services that have to be sources."""
    found = list(wording.wide)
    at = 0
    while at < len(found):
        found.extend([name for name in wording.needs[found[at]] if name not in found])
        at += 1
    return tuple(sorted(found))


def first_shortest_way(wording):
    """Steps are counted from the end, so that from the beginning on the first name with the fewest can be taken."""
    steps = steps_to_narrow(wording)
    fewest = min([steps[name] for name in wording.wide if name in steps])
    way = [[name for name in wording.wide if steps.get(name) == fewest][0]]
    while steps[way[-1]] > 0:
        further = [name for name in wording.needs[way[-1]] if steps.get(name) == steps[way[-1]] - 1]
        way.append(further[0])
    return tuple(way)


def steps_to_narrow(wording):
    """For each name from which a way leads to a narrow one, how many needs it goes by at least."""
    steps = {name: 0 for name in wording.narrow}
    number = 0
    level = wording.narrow
    while level:
        number += 1
        further = [name for name in wording.services
                   if name not in steps and common(wording.needs[name], tuple(level)) != ()]
        for name in further:
            steps[name] = number
        level = further
    return steps


def is_source_paper(book, value):
    if not is_tuple_of(value, 2):
        return False
    if is_word(value[0], "sources"):
        return do_lead(book, value[1])
    return is_word(value[0], "way") and is_way(Wording(book), value[1])


def do_lead(book, value):
    """Whether any value is a lot of services that lead the rulebook."""
    grid = book.grid()
    sources = grid.mask_of(value)
    return sources is not None and misfit_of(grid, sources) is None


def is_way(wording, value):
    """Whether any value is a way, perhaps a longer one than need be."""
    if not isinstance(value, tuple) or len(value) == 0:
        return False
    if not all([is_service(wording.services, name) for name in value]):
        return False
    for at in range(1, len(value)):
        if value[at] not in wording.needs[value[at - 1]]:
            return False
    return value[0] in wording.wide and value[-1] in wording.narrow


def pair_paper(book):
    check_pair_rules(book)
    paper = source_paper(book)
    if paper[0] == "sources":
        return paper
    states = book.states()
    for s in book.services:
        for x in book.services:
            for y in book.services:
                if is_torn(states, s, x, y):
                    return ("torn", (s, x, y), first_without(states, x), first_with(states, y))
    return None


def check_pair_rules(book):
    for rule in book.rules:
        if rule[0] != "imply" or len(names_of(rule)) > 2:
            raise InvalidQuestion(0)


def is_torn(states, s, x, y):
    """Whether the triple holds, and there are states that show it."""
    return holds_apart(states, s, x, y) and first_without(states, x) is not None and first_with(states, y) is not None


def holds_apart(states, s, x, y):
    """Whether in each state s or x runs, and in none s and y."""
    for state in states:
        if s not in state and x not in state or s in state and y in state:
            return False
    return True


def first_without(states, name):
    for state in states:
        if name not in state:
            return state
    return None


def first_with(states, name):
    for state in states:
        if name in state:
            return state
    return None


def is_pair_paper(book, value):
    check_pair_rules(book)
    if is_tuple_of(value, 2) and is_word(value[0], "sources"):
        return do_lead(book, value[1])
    if not is_tuple_of(value, 4) or not is_word(value[0], "torn") or not is_tuple_of(value[1], 3):
        return False
    if not all([is_service(book.services, name) for name in value[1]]):
        return False
    grid = book.grid()
    if grid.state_of(value[2]) is None or grid.state_of(value[3]) is None:
        return False
    s, x, y = value[1]
    return x not in value[2] and y in value[3] and holds_apart(book.states(), s, x, y)
