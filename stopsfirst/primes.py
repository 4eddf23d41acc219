"""Prime rules, and rules that a rulebook could do without."""

from stopsfirst.basics import is_tuple_of, is_word
from stopsfirst.errors import InvalidQuestion
from stopsfirst.grids import Grid
from stopsfirst.lots import common, is_part
from stopsfirst.rulebooks import first_forbidden, is_index
from stopsfirst.rules import allows, kept_rule, made_rule, names_of


def prime_rules(book):
    return primes_of_grid(book.grid())


def prime_of(rule):
    return primes_of_grid(Grid(names_of(rule), (rule,)))


def primes_of_grid(grid):
    """All prime rules, ascending.

    A rule that asks for `ys` if all of `xs` run follows if no allowed state has all of `xs` and none of `ys`.
    """
    broken = breakable_rules(grid)
    rules = []
    for union in range(grid.full + 1):
        for xs in grid.mask_parts[union]:
            if not broken[(xs, union & ~xs)] and is_prime(broken, xs, union & ~xs):
                rules.append(("imply", grid.lots[xs], grid.lots[union & ~xs]))
    return tuple(sorted(rules))


def breakable_rules(grid):
    """For all (xs, ys) without common services, whether some allowed state has all of xs and none of ys.

    With all services in xs or ys that state is xs. Otherwise a service in neither may run or rest.
    """
    broken = {}
    for union in range(grid.full, -1, -1):
        missing = grid.full & ~union
        extra = missing & -missing
        for xs in grid.mask_parts[union]:
            ys = union & ~xs
            if missing == 0:
                broken[(xs, ys)] = grid.allowed[xs]
            else:
                broken[(xs, ys)] = broken[(xs | extra, ys)] or broken[(xs, ys | extra)]
    return broken


def is_prime(broken, xs, ys):
    """Whether a rule that follows does not follow any more with any one service left out."""
    for bit in bits_of(xs):
        if not broken[(xs & ~bit, ys)]:
            return False
    for bit in bits_of(ys):
        if not broken[(xs, ys & ~bit)]:
            return False
    return True


def bits_of(mask):
    bits = []
    while mask:
        bits.append(mask & -mask)
        mask = mask & (mask - 1)
    return bits


def asked_imply(book, rule):
    """The kept form of what is to be an imply rule that is not void."""
    kept = made_rule(book.services, rule)
    if kept[0] != "imply" or common(kept[1], kept[2]) != ():
        raise InvalidQuestion(1)
    return kept


def is_inside(rule, outer):
    return is_part(rule[1], outer[1]) and is_part(rule[2], outer[2])


def follow_paper(book, rule):
    asked = asked_imply(book, rule)
    state = first_forbidden(book, asked)
    if state is not None:
        return ("state", state)
    inside = [prime for prime in prime_rules(book) if is_inside(prime, asked)]
    return ("prime", inside[0])


def is_follow_paper(book, rule, value):
    asked = asked_imply(book, rule)
    if not is_tuple_of(value, 2):
        return False
    if is_word(value[0], "prime"):
        return is_kept_imply(book, value[1]) and is_inside(value[1], asked) and first_forbidden(book, value[1]) is None
    if is_word(value[0], "state"):
        return book.is_state(value[1]) and book.allows(value[1]) and not allows(asked, value[1])
    return False


def is_kept_imply(book, value):
    """Whether any value is the kept form of an imply rule; lists differ from the tuples of that form."""
    kept = kept_rule(book.services, value)
    return kept is not None and kept[0] == "imply" and kept == value


def forbidden_sets(book):
    """For each rule a number in which the bit at each mask that the rule forbids is set."""
    lots = book.grid().lots
    return [forbidden_set(rule, lots) for rule in book.rules]


def forbidden_set(rule, lots):
    found = 0
    for mask, lot in enumerate(lots):
        if not allows(rule, lot):
            found |= 1 << mask
    return found


def forbidden_by(sets, indexes):
    """What the rules of these indexes forbid, together."""
    found = 0
    for at in indexes:
        found |= sets[at]
    return found


def without(indexes, left_out):
    return [at for at in indexes if at != left_out]


def witness(book, at):
    if not is_index(at, book.rules):
        raise InvalidQuestion(1)
    sets = forbidden_sets(book)
    others = without(list(range(len(sets))), at)
    alone = sets[at] & ~forbidden_by(sets, others)
    grid = book.grid()
    for mask in grid.ordered:
        if (alone >> mask) & 1:
            return grid.lots[mask]
    return None


def needless_alone(book):
    sets = forbidden_sets(book)
    every = list(range(len(sets)))
    whole = forbidden_by(sets, every)
    return tuple([at for at in every if forbidden_by(sets, without(every, at)) == whole])


def needless_in_turn(book):
    sets = forbidden_sets(book)
    there = list(range(len(sets)))
    whole = forbidden_by(sets, there)
    needless = []
    for at in reversed(range(len(sets))):
        fewer = without(there, at)
        if forbidden_by(sets, fewer) == whole:
            there = fewer
            needless.append(at)
    return tuple(sorted(needless))


def least_rules(book):
    sets = forbidden_sets(book)
    every = list(range(len(sets)))
    whole = forbidden_by(sets, every)
    least = []
    for chosen in range(1 << len(sets)):
        indexes = [at for at in every if (chosen >> at) & 1]
        if forbidden_by(sets, indexes) == whole and not can_be_fewer(sets, indexes, whole):
            least.append(tuple(indexes))
    return tuple(sorted(least))


def can_be_fewer(sets, indexes, whole):
    for at in indexes:
        if forbidden_by(sets, without(indexes, at)) == whole:
            return True
    return False


def useful(book):
    found = {}
    for indexes in least_rules(book):
        for at in indexes:
            found[at] = True
    return tuple(sorted(found))
