"""Single rules: their kept form, and which lots they allow."""

from stopsfirst.basics import is_integer, is_sequence
from stopsfirst.errors import InvalidRule
from stopsfirst.lots import common, is_name, is_part, united

GREATEST = 1000000


def made_rule(services, value):
    rule = kept_rule(services, value)
    if rule is None:
        raise InvalidRule(0)
    return rule


def kept_rule(services, value):
    """The kept form of any value as a rule about the services, or None if it is no rule."""
    if not is_sequence(value) or len(value) == 0 or not isinstance(value[0], str):
        return None
    keep = KEEPERS.get(value[0])
    if keep is None or len(value) != LENGTHS[value[0]]:
        return None
    return keep(services, value)


def kept_lot(services, value):
    """A sequence of different services as a lot, or None if it is none."""
    if not is_sequence(value):
        return None
    for name in value:
        if not is_name(name) or name not in services:
            return None
    lot = tuple(sorted(set(value)))
    return lot if len(lot) == len(value) else None


def kept_pairs(services, value):
    """A sequence of pairs of different services and numbers, ascending, or None if it is none."""
    if not is_sequence(value):
        return None
    for pair in value:
        if not is_sequence(pair) or len(pair) != 2 or not is_integer_from(pair[1], 0):
            return None
    if kept_lot(services, [entry[0] for entry in value]) is None:
        return None
    return tuple(sorted([tuple(entry) for entry in value]))


def kept_triple(services, value):
    if not is_sequence(value) or len(value) != 3 or not is_integer_from(value[2], 1):
        return None
    ends = kept_lot(services, [value[0], value[1]])
    return None if ends is None else ends + (value[2],)


def is_integer_from(value, least):
    return is_integer(value) and least <= value <= GREATEST


def kept_imply(services, value):
    xs = kept_lot(services, value[1])
    ys = kept_lot(services, value[2])
    if xs is None or ys is None:
        return None
    return ("imply", xs, ys)


def kept_cap(services, value):
    pairs = kept_pairs(services, value[1])
    if pairs is None or not is_integer_from(value[2], 0):
        return None
    return ("cap", pairs, value[2])


def kept_cut(services, value):
    if not is_sequence(value[1]) or not is_integer_from(value[2], 0):
        return None
    triples = [kept_triple(services, triple) for triple in value[1]]
    if None in triples:
        return None
    if len(set([triple[:2] for triple in triples])) != len(triples):
        return None
    return ("cut", tuple(sorted(triples)), value[2])


def kept_feed(services, value):
    users = kept_pairs(services, value[1])
    sources = kept_pairs(services, value[2])
    if users is None or sources is None or not is_integer_from(value[3], -GREATEST):
        return None
    if common(names_in(users), names_in(sources)) != ():
        return None
    return ("feed", users, sources, value[3])


def kept_table(services, value):
    names = kept_lot(services, value[1])
    if names is None or not is_sequence(value[2]):
        return None
    lots = [kept_lot(names, lot) for lot in value[2]]
    if None in lots or len(set(lots)) != len(lots):
        return None
    return ("table", names, tuple(sorted(lots)))


def allows(rule, state):
    allow = ALLOWERS[rule[0]]
    return allow(rule, state)


def imply_allows(rule, state):
    return not is_part(rule[1], state) or common(rule[2], state) != ()


def cap_allows(rule, state):
    return sum_of_running(rule[1], state) <= rule[2]


def cut_allows(rule, state):
    total = 0
    for one, other, number in rule[1]:
        if (one in state) != (other in state):
            total += number
    return total <= rule[2]


def feed_allows(rule, state):
    return sum_of_running(rule[1], state) <= sum_of_running(rule[2], state) + rule[3]


def table_allows(rule, state):
    return common(rule[1], state) in rule[2]


def sum_of_running(pairs, state):
    return sum([number for name, number in pairs if name in state])


def names_in(pairs):
    return tuple([pair[0] for pair in pairs])


def names_of(rule):
    if rule[0] == "imply":
        return united(rule[1], rule[2])
    if rule[0] == "cap":
        return names_in(rule[1])
    if rule[0] == "cut":
        return united(names_in(rule[1]), tuple([triple[1] for triple in rule[1]]))
    if rule[0] == "feed":
        return united(names_in(rule[1]), names_in(rule[2]))
    return rule[1]


def meet_or_join(rule, one, other):
    if allows(rule, common(one, other)):
        return "meet"
    if allows(rule, united(one, other)):
        return "join"
    return None


LENGTHS = {"imply": 3, "cap": 3, "cut": 3, "feed": 4, "table": 3}

KEEPERS = {
    "imply": kept_imply,
    "cap": kept_cap,
    "cut": kept_cut,
    "feed": kept_feed,
    "table": kept_table,
}

ALLOWERS = {
    "imply": imply_allows,
    "cap": cap_allows,
    "cut": cut_allows,
    "feed": feed_allows,
    "table": table_allows,
}
