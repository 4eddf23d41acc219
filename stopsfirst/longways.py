"""Rulebooks in which plans that start one service at a time are long."""

from stopsfirst.lots import united
from stopsfirst.rulebooks import Rulebook

LETTERS = "abcdefghij"


def long_row(number):
    row = ((),)
    for at in range(number):
        p, q = LETTERS[2 * at], LETTERS[2 * at + 1]
        between = united(tuple(LETTERS[1:2 * at:2]), (p,))
        row = row + (between,) + tuple([united(state, (p, q)) for state in row])
    return row


def long_book(number):
    services = tuple(LETTERS[:2 * number])
    return Rulebook(services, (("table", services, long_row(number)),))
