"""Kinds of rules and rulebooks: closed under common parts, under joined lots, or under one of both."""

from stopsfirst.basics import is_word
from stopsfirst.errors import InvalidQuestion
from stopsfirst.grids import Grid, members
from stopsfirst.rulebooks import checked_services
from stopsfirst.rules import made_rule, names_of

WORDS = ("meet", "join", "either")


def open_pair(book, word):
    grid = book.grid()
    return open_pair_of(grid, checked_word(word, 1))


def checked_word(value, at):
    if not any([is_word(value, word) for word in WORDS]):
        raise InvalidQuestion(at)
    return value


def open_pair_of(grid, word):
    """The first pair of allowed lots whose meet, join or both (as the word says) are not allowed, or None."""
    for a in grid.running:
        for b in grid.running:
            if not is_closed_pair(grid.allowed, a, b, word):
                return grid.in_turn((a, b))
    return None


def is_closed_pair(allowed, a, b, word):
    if word == "meet":
        return allowed[a & b]
    if word == "join":
        return allowed[a | b]
    return allowed[a & b] or allowed[a | b]


def rule_open_pair(services, rule, word):
    kept = made_rule(checked_services(services), rule)
    return rule_gap(kept, checked_word(word, 2))


def rule_gap(rule, word):
    """What rule_open_pair tells of a kept rule."""
    return open_pair_of(Grid(names_of(rule), (rule,)), word)


def is_plain_rule(rule):
    return rule_gap(rule, "meet") is None and rule_gap(rule, "join") is None


def harm(services, rule):
    names = checked_services(services)
    grid = Grid(names, (made_rule(names, rule),))
    for word in ("meet", "join"):
        pair = open_pair_of(grid, word)
        if pair is not None:
            a, b = [grid.masks[state] for state in pair]
            return told_harm(grid, (a, b, a & b if word == "meet" else a | b), a, b)
    for a in grid.running:
        for b in grid.running:
            x = first_forbidden_inside(grid, a & b, a)
            if x is not None and has_two(b & ~a):
                return told_harm(grid, wide_family(grid, a, b, x), a, b)
    return None


def told_harm(grid, masks, a, b):
    return (grid.ascending(masks), grid.lots[a], grid.lots[b])


def has_two(mask):
    return mask & (mask - 1) != 0


def strictly_between(grid, low, high):
    """The masks of the lots between two others, one within the other, without these."""
    return [mask for mask in members(grid.above[low] & grid.below[high]) if mask != low and mask != high]


def first_forbidden_inside(grid, low, high):
    """The first lot strictly between two others that is not allowed, or None; there is none between near ones."""
    masks = [mask for mask in strictly_between(grid, low, high) if not grid.allowed[mask]]
    return grid.masks[grid.first_of(masks)] if masks else None


def wide_family(grid, a, b, x):
    """A bendable family in which only x keeps a and b from having no middle."""
    y = grid.masks[grid.first_of(strictly_between(grid, a & b, b))]
    return (a, b, x, y, x | y, x | b, y | a)


def need_harm(book):
    pair = open_pair(book, "either")
    if pair is None:
        return None
    a, b = pair
    alone = [name for name in a if name not in b]
    return (a, b, tuple([(x, y) for x in alone for y in alone if x != y]))
