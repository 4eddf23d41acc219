"""Steps: descriptions of bendable rulebooks that are put together from smaller ones."""

from stopsfirst.errors import InvalidState, NotAllowed
from stopsfirst.families import family_of, has_one_rule, is_lot_of, middle_of
from stopsfirst.lots import common, is_part, united
from stopsfirst.rulebooks import Rulebook
from stopsfirst.rules import names_of
from stopsfirst.words import source_paper


def step_services(step):
    return family_of(step, 0).services


def step_states(step):
    return told_states(family_of(step, 0))


def told_states(family):
    return tuple(list(family.known))


def step_kind(step):
    return family_of(step, 0).kind


def step_middle(step, first, second):
    family = family_of(step, 0)
    for at, state in enumerate((first, second)):
        if not is_lot_of(family.services, state):
            raise InvalidState(at)
    for at, state in enumerate((first, second)):
        if state not in family.known:
            raise NotAllowed(at)
    return middle_of(family, first, second)


def derive(book):
    step = derived_whole(book)
    if step is not None:
        return step
    blocks = [derived_whole(block) for block in block_books(book)]
    if None in blocks:
        return None
    step = blocks[-1]
    for block in reversed(blocks[:-1]):
        step = ("beside", block, step)
    return step


def derived_whole(book):
    """A step that is not put together from others and describes the allowed states, or None."""
    paper = source_paper(book)
    if paper[0] == "sources":
        return ("led", book.services, book.rules, paper[1])
    if has_one_rule(book):
        return ("one", book.services, book.rules)
    return None


def block_books(book):
    """A rulebook for each block, with the rules about it; rules without names belong to the first one."""
    blocks = blocks_of(book)
    books = []
    for at, block in enumerate(blocks):
        rules = [rule for rule in book.rules if is_rule_about(rule, block, at == 0)]
        books.append(Rulebook(block, rules))
    return books


def is_rule_about(rule, block, is_first):
    names = names_of(rule)
    return is_first if names == () else is_part(names, block)


def blocks_of(book):
    """The least lots such that no rule names services of two, ascending."""
    blocks = [(name,) for name in book.services]
    for rule in book.rules:
        names = names_of(rule)
        apart = [block for block in blocks if common(block, names) == ()]
        whole = ()
        for block in blocks:
            if block not in apart:
                whole = united(whole, block)
        blocks = apart if whole == () else apart + [whole]
    return sorted(blocks)


def is_step_of(step, book):
    family = family_of(step, 0)
    return family.services == book.services and told_states(family) == book.states()
