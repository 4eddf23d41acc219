"""Names, and lots: ascending tuples of names without doubles."""


def is_name(value):
    if not isinstance(value, str) or not 1 <= len(value) <= 5:
        return False
    for letter in value:
        if not "a" <= letter <= "z":
            return False
    return True


def is_lot(value):
    if not isinstance(value, tuple):
        return False
    for name in value:
        if not is_name(name):
            return False
    for at in range(1, len(value)):
        if value[at] <= value[at - 1]:
            return False
    return True


def is_ascending(value):
    """Whether any value is an ascending tuple of unlike lots."""
    if not isinstance(value, tuple) or not all([is_lot(lot) for lot in value]):
        return False
    return all([value[at - 1] < value[at] for at in range(1, len(value))])


def common(one, other):
    return tuple([name for name in one if name in other])


def united(one, other):
    return tuple(sorted(set(one + other)))


def less(one, other):
    return tuple([name for name in one if name not in other])


def is_part(one, other):
    for name in one:
        if name not in other:
            return False
    return True


def parts_of(lot):
    parts = [()]
    for name in lot:
        parts = parts + [part + (name,) for part in parts]
    return tuple(sorted(parts))


def lots_between(low, high):
    if not is_part(low, high):
        return ()
    return tuple(sorted([united(low, part) for part in parts_of(less(high, low))]))


def least_lots(lots):
    """Shorter lots come first, so that a lot need only be held against those already kept."""
    unlike = sorted(set(lots))
    least = []
    for lot in sorted(unlike, key=len):
        if not any([is_part(known, lot) for known in least]):
            least.append(lot)
    return tuple(sorted(least))


def greatest_lots(lots):
    """Longer lots come first, so that a lot need only be held against those already kept."""
    unlike = sorted(set(lots))
    greatest = []
    for lot in sorted(unlike, key=len, reverse=True):
        if not any([is_part(lot, known) for known in greatest]):
            greatest.append(lot)
    return tuple(sorted(greatest))
