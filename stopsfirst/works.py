"""Rulebooks that change, deed by deed, and can be changed back."""

from stopsfirst.basics import is_sequence
from stopsfirst.court import is_bendable
from stopsfirst.errors import InvalidRule, Refused
from stopsfirst.evidence import is_verdict, verdict
from stopsfirst.rulebooks import Rulebook, is_index
from stopsfirst.rules import kept_rule


class Works:
    """A rulebook that changes. The rulebooks before each deed that can be taken back are kept, the first one first."""

    def __init__(self, book):
        self._book = book
        self._past = []
        self._told = None
        self._made = 0

    def __eq__(self, other):
        return isinstance(other, Works) and self._book == other._book and self._past == other._past

    @property
    def current(self):
        return self._book

    @property
    def made(self):
        return self._made

    def __len__(self):
        return len(self._past)

    def put(self, rule):
        return self.change_to(self._book.with_rules((rule,)))

    def drop(self, at):
        rules = self._book.rules
        if not is_index(at, rules):
            raise Refused(0)
        return self.change_to(Rulebook(self._book.services, rules[:at] + rules[at + 1:]))

    def swap(self, at, rule):
        rules = self._book.rules
        if not is_index(at, rules):
            raise Refused(0)
        return self.change_to(Rulebook(self._book.services, rules[:at] + (rule,) + rules[at + 1:]))

    def change_to(self, book):
        """Does a deed, and tells what is not allowed any more, and what was not allowed before."""
        before = self._book
        self._past.append(before)
        self._book = book
        return (parted(before, book), parted(book, before))

    def undo(self):
        if len(self._past) == 0:
            return False
        self._book = self._past.pop()
        return True

    def within(self, work):
        book = self._book
        past = list(self._past)
        try:
            return work(self)
        finally:
            self._book, self._past = book, past

    def verdict(self):
        if self._told is None or not is_verdict(self._book, self._told):
            self._told = verdict(self._book)
            self._made += 1
        return self._told

    def trial(self, rules):
        if not is_sequence(rules):
            raise InvalidRule(0)
        for at, rule in enumerate(rules):
            if kept_rule(self._book.services, rule) is None:
                raise InvalidRule(at)
        return tuple([is_bendable(self._book.with_rules((rule,))) for rule in rules])


def parted(one, other):
    """The states that one rulebook allows and another one with the same services does not, ascending."""
    allowed = other.grid().allowed
    grid = one.grid()
    return grid.in_turn([mask for mask in grid.running if not allowed[mask]])
