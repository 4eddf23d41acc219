"""What steps describe: services with a bendable family of states, and a middle of any two of these.

A step is checked after those in it. What is no step, or has a condition that fails, is refused with its number.
"""

from stopsfirst.basics import is_service, is_tuple_of
from stopsfirst.errors import InvalidRule, InvalidServices, Refused
from stopsfirst.kinds import is_plain_rule, rule_gap
from stopsfirst.lots import common, is_lot, is_name, is_part, less, lots_between, parts_of, united
from stopsfirst.rulebooks import Rulebook
from stopsfirst.words import do_lead, led_middle


class Family:
    """A step that has been checked: its services, its states (as the keys of a dict), its kind, the steps in it."""

    def __init__(self, step, inner, services, states, kind):
        self.told = step
        self.inner = inner
        self.services = services
        self.known = {state: True for state in sorted(states)}
        self.kind = kind
        self.size = 1 + sum([family.size for family in inner])


def family_of(value, number):
    """The family of what is to be the step with this number, in the order in which steps are written."""
    if not has_shape(value):
        raise Refused(number)
    inner = []
    for at in range(INNER[value[0]]):
        before = sum([family.size for family in inner])
        inner.append(family_of(value[1 + at], number + 1 + before))
    make = MAKERS[value[0]]
    family = make(value, inner)
    if family is None:
        raise Refused(number)
    return family


def has_shape(value):
    """Whether any value is a tuple of one of the words and as many things as stand behind it."""
    if not isinstance(value, tuple) or len(value) == 0 or not isinstance(value[0], str):
        return False
    return LENGTHS.get(value[0]) == len(value)


def is_lot_of(services, value):
    return is_lot(value) and is_part(value, services)


def are_lots_of(services, value):
    return isinstance(value, tuple) and all([is_lot_of(services, lot) for lot in value])


def book_of(step):
    """The rulebook that a step without steps in it tells, or None if it tells none."""
    try:
        return Rulebook(step[1], step[2])
    except (InvalidServices, InvalidRule):
        return None


def led_family(step, inner):
    book = book_of(step)
    if book is None or not do_lead(book, step[3]):
        return None
    kind = "any"
    if step[3] == ():
        kind = "meet"
    elif step[3] == book.services:
        kind = "join"
    return Family(step, inner, book.services, book.states(), kind)


def one_family(step, inner):
    book = book_of(step)
    if book is None or not has_one_rule(book):
        return None
    return Family(step, inner, book.services, book.states(), "either")


def has_one_rule(book):
    """Whether at most one rule is not plain, and this one is closed under either."""
    others = [rule for rule in book.rules if not is_plain_rule(rule)]
    return len(others) == 0 or len(others) == 1 and rule_gap(others[0], "either") is None


def needs_family(step, inner):
    services, pairs = inner[0].services, step[2]
    if inner[0].kind == "any" or not isinstance(pairs, tuple):
        return None
    if not all([is_tuple_of(pair, 2) and all([is_service(services, name) for name in pair]) for pair in pairs]):
        return None
    states = [state for state in inner[0].known if all([x not in state or y in state for x, y in pairs])]
    return Family(step, inner, services, states, inner[0].kind)


def between_family(step, inner):
    services, low, high = inner[0].services, step[2], step[3]
    if not is_lot_of(services, low) or not is_lot_of(services, high):
        return None
    states = [state for state in inner[0].known if is_part(low, state) and is_part(state, high)]
    return Family(step, inner, services, states, inner[0].kind)


def hidden_family(step, inner):
    services, names = inner[0].services, step[2]
    if not is_lot_of(services, names) or names == () or names == services:
        return None
    return Family(step, inner, less(services, names), [less(state, names) for state in inner[0].known], inner[0].kind)


def mirror_family(step, inner):
    services = inner[0].services
    kind = MIRRORED.get(inner[0].kind, inner[0].kind)
    return Family(step, inner, services, [less(services, state) for state in inner[0].known], kind)


def small_family(step, inner):
    if not are_lots_of(inner[0].services, step[2]):
        return None
    parts = [part for lot in step[2] for part in parts_of(lot)]
    kind = "either" if inner[0].kind == "join" else inner[0].kind
    return Family(step, inner, inner[0].services, list(inner[0].known) + parts, kind)


def great_family(step, inner):
    services = inner[0].services
    if not are_lots_of(services, step[2]):
        return None
    wholes = [whole for lot in step[2] for whole in lots_between(lot, services)]
    kind = "either" if inner[0].kind == "meet" else inner[0].kind
    return Family(step, inner, services, list(inner[0].known) + wholes, kind)


def copy_family(step, inner):
    services, name, new = inner[0].services, step[2], step[3]
    if not is_service(services, name) or not is_name(new) or new in services:
        return None
    states = [with_copy(state, name, new) for state in inner[0].known]
    return Family(step, inner, united(services, (new,)), states, inner[0].kind)


def with_copy(state, name, new):
    return united(state, (new,)) if name in state else state


def beside_family(step, inner):
    one, other = inner
    if common(one.services, other.services) != ():
        return None
    kind = one.kind if one.kind == other.kind and one.kind in ("meet", "join") else "any"
    states = [united(first, second) for first in one.known for second in other.known]
    return Family(step, inner, united(one.services, other.services), states, kind)


def middle_of(family, first, second):
    """A middle of two states of a family."""
    tell = MIDDLES[family.told[0]]
    return tell(family, first, second)


def led_step_middle(family, first, second):
    return led_middle(family.told[3], first, second)


def meet_or_first(family, first, second):
    meet = common(first, second)
    return meet if meet in family.known else first


def inner_middle(family, first, second):
    return middle_of(family.inner[0], first, second)


def hidden_middle(family, first, second):
    names = family.told[2]
    one, other = [first_like(family.inner[0], names, state) for state in (first, second)]
    return less(inner_middle(family, one, other), names)


def first_like(family, names, state):
    """The first state of a family that is this one without the names."""
    return [like for like in family.known if less(like, names) == state][0]


def mirror_middle(family, first, second):
    one, other = [less(family.services, state) for state in (first, second)]
    return less(family.services, united(one, inner_middle(family, other, one)))


def small_middle(family, first, second):
    known = family.inner[0].known
    return inner_middle(family, first, second) if first in known and second in known else common(first, second)


def great_middle(family, first, second):
    known = family.inner[0].known
    return inner_middle(family, first, second) if first in known and second in known else first


def copy_middle(family, first, second):
    name, new = family.told[2], family.told[3]
    middle = inner_middle(family, less(first, (new,)), less(second, (new,)))
    return with_copy(middle, name, new)


def beside_middle(family, first, second):
    found = ()
    for inner in family.inner:
        middle = middle_of(inner, common(first, inner.services), common(second, inner.services))
        found = united(found, middle)
    return found


LENGTHS = {
    "led": 4,
    "one": 3,
    "needs": 3,
    "between": 4,
    "hidden": 3,
    "mirror": 2,
    "small": 3,
    "great": 3,
    "copy": 4,
    "beside": 3,
}

INNER = {
    "led": 0,
    "one": 0,
    "needs": 1,
    "between": 1,
    "hidden": 1,
    "mirror": 1,
    "small": 1,
    "great": 1,
    "copy": 1,
    "beside": 2,
}

MIRRORED = {"meet": "join", "join": "meet"}

MAKERS = {
    "led": led_family,
    "one": one_family,
    "needs": needs_family,
    "between": between_family,
    "hidden": hidden_family,
    "mirror": mirror_family,
    "small": small_family,
    "great": great_family,
    "copy": copy_family,
    "beside": beside_family,
}

MIDDLES = {
    "led": led_step_middle,
    "one": meet_or_first,
    "needs": meet_or_first,
    "between": inner_middle,
    "hidden": hidden_middle,
    "mirror": mirror_middle,
    "small": small_middle,
    "great": great_middle,
    "copy": copy_middle,
    "beside": beside_middle,
}
