"""What the tests of contests share: contests to ask about, and who holds which state, from the words of [75]."""

import random

from stopsfirst.others import Contest
from stopsfirst.rulebooks import Rulebook
from tests import helper
from tests.helper import fits, minus, proper


def contests(seed, many, services="abcd", bendable=False):
    """Contests with their states, batches and goals, about random rulebooks."""
    chance = random.Random(seed)
    books = helper.bendable_books(seed, many, services) if bendable else helper.random_books(seed, many, services)
    for names, rules in books:
        states = helper.allowed(names, rules)
        if not states:
            continue
        batches = chance.choice(helper.random_batches(chance.random(), names, 9))
        goals = [chance.choice(states) for _ in range(chance.choice((1, 1, 2, 3)))]
        yield Contest(Rulebook(names, rules), batches, goals), states, batches, goals


def let(states, batches, state):
    return [other for other in states if fits(batches, minus(other, state))]


def held_by_words(states, batches, goals):
    """For each number of stops, until it stays the same, the states that others hold.

    All states are taken as held, until one is found at which others cannot keep you from getting further: they cannot
    act so as to hold what is left, and it is a goal, or you can go to where they hold no more.
    """
    levels = []
    while len(levels) < 2 or levels[-1] != levels[-2]:
        before = levels[-1] if levels else set()
        held = set(states)
        again = True
        while again:
            lost = {s for s in held if not any(proper(part, s) for part in before)
                    and (s in goals or any(t not in held for t in let(states, batches, s)))}
            again = bool(lost)
            held -= lost
        levels.append(held)
    return levels


def needed_by_words(states, batches, goals):
    levels = held_by_words(states, batches, goals)
    return {s: next((r for r, held in enumerate(levels) if s in held), None) for s in states}
