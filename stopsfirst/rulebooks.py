"""Rulebooks: some services, and the rules about them."""

from stopsfirst.basics import is_integer, is_sequence
from stopsfirst.errors import InvalidQuestion, InvalidRule, InvalidServices, InvalidState
from stopsfirst.grids import Grid, joined, met
from stopsfirst.lots import is_lot, is_name, is_part
from stopsfirst.rules import allows, kept_rule, made_rule

MOST_SERVICES = 10


class Rulebook:
    """Services and kept rules; a state is allowed if all rules allow it."""

    def __init__(self, services, rules):
        self.services = checked_services(services)
        self.rules = checked_rules(self.services, rules, 0)
        self._grid = None

    def __eq__(self, other):
        return isinstance(other, Rulebook) and self.services == other.services and self.rules == other.rules

    def is_state(self, value):
        return is_lot(value) and is_part(value, self.services)

    def broken(self, state):
        if not self.is_state(state):
            raise InvalidState(0)
        return tuple([at for at, rule in enumerate(self.rules) if not allows(rule, state)])

    def allows(self, state):
        return self.broken(state) == ()

    def states(self):
        grid = self.grid()
        return grid.in_turn(grid.running)

    def with_rules(self, rules):
        return Rulebook(self.services, self.rules + checked_rules(self.services, rules, len(self.rules)))

    def only_rules(self, indexes):
        if not is_sequence(indexes):
            raise InvalidQuestion(0)
        for at, index in enumerate(indexes):
            if not is_index(index, self.rules):
                raise InvalidQuestion(at)
        return Rulebook(self.services, [rule for at, rule in enumerate(self.rules) if at in indexes])

    def grid(self):
        """The masks of this rulebook. They are worked out when they are first asked for, since few need them."""
        if self._grid is None:
            self._grid = Grid(self.services, self.rules)
        return self._grid


def checked_services(services):
    if not is_sequence(services) or len(services) == 0:
        raise InvalidServices(0)
    names = []
    for at, name in enumerate(services):
        if at == MOST_SERVICES or not is_name(name) or name in names:
            raise InvalidServices(at)
        names.append(name)
    return tuple(sorted(names))


def checked_rules(services, rules, before):
    """The kept forms of the rules; `before` is how many stand ahead of them."""
    if not is_sequence(rules):
        raise InvalidRule(before)
    kept = []
    for at, value in enumerate(rules):
        rule = kept_rule(services, value)
        if rule is None:
            raise InvalidRule(before + at)
        kept.append(rule)
    return tuple(kept)


def is_index(value, rules):
    return is_integer(value) and 0 <= value < len(rules)


def parting_state(one, other):
    if one.services != other.services:
        raise InvalidQuestion(1)
    grid = one.grid()
    allowed = other.grid().allowed
    for mask in grid.ordered:
        if grid.allowed[mask] != allowed[mask]:
            return grid.lots[mask]
    return None


def follows(book, rule):
    return first_forbidden(book, made_rule(book.services, rule)) is None


def first_forbidden(book, rule):
    """The first allowed state that a kept rule forbids, or None."""
    for state in book.states():
        if not allows(rule, state):
            return state
    return None


def steady(book):
    grid = book.grid()
    if not grid.running:
        return (book.services, book.services)
    return (grid.lots[met(grid.running)], grid.lots[grid.full & ~joined(grid.running)])
