"""Menus: which rules would have to be struck, or put in from a menu, for a rulebook to be bendable."""

from stopsfirst.basics import is_number, is_sequence, is_tuple_of
from stopsfirst.errors import InvalidQuestion, InvalidRule
from stopsfirst.grids import members, set_of
from stopsfirst.lots import least_lots
from stopsfirst.primes import forbidden_by, forbidden_sets
from stopsfirst.repairs import is_tree, tree_for, working_turns
from stopsfirst.rulebooks import Rulebook, is_index
from stopsfirst.rules import kept_rule

MOST_RULES = 6
MOST_TURNED = 4


def menu_rules(book, menu):
    """The kept forms of the rules of what is to be a menu."""
    if not is_sequence(menu) or len(menu) > MOST_RULES:
        raise InvalidQuestion(0)
    rules = []
    for at, value in enumerate(menu):
        rule = kept_rule(book.services, value)
        if rule is None:
            raise InvalidRule(at)
        rules.append(rule)
    return tuple(rules)


def rules_mended(book, menu, mend):
    rules = menu_rules(book, menu)
    if not is_tuple_of(mend, 2) or not are_indexes(book.rules, mend[0]) or not are_indexes(rules, mend[1]):
        raise InvalidQuestion(1)
    left = [rule for at, rule in enumerate(book.rules) if at not in mend[0]]
    return Rulebook(book.services, left + [rules[at] for at in mend[1]])


def are_indexes(rules, value):
    """Whether any value is an ascending tuple of indexes of rules."""
    if not isinstance(value, tuple) or not all([is_index(at, rules) for at in value]):
        return False
    return all([value[at - 1] < value[at] for at in range(1, len(value))])


class Choice:
    """The rule mends that are looked for, as a repair: rules of a book are struck, and rules of a menu put in."""

    def __init__(self, book, rules, most):
        self.field = book.grid()
        self.most = most
        self.own = forbidden_sets(book)
        self.further = forbidden_sets(Rulebook(book.services, rules))
        self.every = (1 << self.field.full + 1) - 1

    def left(self, turned):
        """The indexes of the rules of the book that are not struck."""
        return [at for at in range(len(self.own)) if not turned[0] >> at & 1]

    def family(self, turned):
        forbidden = forbidden_by(self.own, self.left(turned)) | forbidden_by(self.further, members(turned[1]))
        return self.every & ~forbidden

    def cures(self, turned, a, b):
        ends = 1 << a | 1 << b
        found = []
        for at, forbidden in enumerate(self.further):
            if forbidden & ends and not turned[1] >> at & 1:
                found.append((0, 1 << at))
        return found + self.striking(turned, a, b)

    def striking(self, turned, a, b):
        """What can be struck for two allowed states to have a middle: the least lots of rules, in their order."""
        put = forbidden_by(self.further, members(turned[1]))
        left = self.left(turned)
        found = []
        for part in self.field.mask_parts[a & ~b]:
            needed = 1 << (a & b | part) | 1 << (b | part)
            if not put & needed:
                found.append(tuple([at for at in left if self.own[at] & needed]))
        return [(set_of(list(struck)), 0) for struck in least_lots(found)]


def asked_choice(book, menu, most):
    rules = menu_rules(book, menu)
    if not is_number(most) or most > MOST_TURNED:
        raise InvalidQuestion(1)
    return Choice(book, rules, most)


def fewest_rules(book, menu, most):
    working = working_turns(asked_choice(book, menu, most), True)
    return min([(tuple(members(struck)), tuple(members(put))) for struck, put in working], default=None)


def rules_tree(book, menu, most):
    return tree_for(asked_choice(book, menu, most))


def rules_tree_holds(book, menu, most, value):
    return is_tree(asked_choice(book, menu, most), value)
