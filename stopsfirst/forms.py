"""Forms of costs: whether any value is one, and what it assigns to a lot."""

from stopsfirst.basics import is_integer, is_number, is_service, is_tuple_of
from stopsfirst.lots import is_lot, is_part

MOST_FORMS = 4


def fault_in(services, value):
    """None for a form about a lot of services; otherwise -1 for another shape, or the index of the first wrong row."""
    if not has_shape(value):
        return -1
    find = FAULTS[value[0]]
    return find(services, value)


def has_shape(value):
    """Whether any value is a tuple of a word and as many tuples as stand behind it."""
    if not isinstance(value, tuple) or len(value) == 0 or not isinstance(value[0], str):
        return False
    if LENGTHS.get(value[0]) != len(value) or not all([isinstance(rows, tuple) for rows in value[1:]]):
        return False
    return value[0] != "most" or 1 <= len(value[1]) <= MOST_FORMS


def fault_in_rows(services, rows, row_key):
    """The index of the first row that is wrong or not after the one before, or None."""
    before = None
    for at, row in enumerate(rows):
        key = row_key(services, row)
        if key is None or before is not None and key <= before:
            return at
        before = key
    return None


def fault_in_sum(services, form):
    return fault_in_rows(services, form[1], sum_key)


def fault_in_cut(services, form):
    return fault_in_rows(services, form[1], cut_key)


def fault_in_told(services, form):
    return fault_in_rows(services, form[1], told_key)


def fault_in_peak(services, form):
    fault = fault_in_rows(services, form[1], peak_key)
    if fault is not None:
        return fault
    fault = fault_in_rows(services, form[2], peak_key)
    return None if fault is None else len(form[1]) + fault


def fault_in_most(services, form):
    for at, inner in enumerate(form[1]):
        if not has_shape(inner) or inner[0] == "most" or fault_in(services, inner) is not None:
            return at
    return None


def sum_key(services, row):
    """What a row stands by, as a tuple, or None if any value is no such row; likewise for the other forms."""
    if not is_tuple_of(row, 2) or not is_service(services, row[0]) or not is_integer(row[1]):
        return None
    return row[:1]


def peak_key(services, row):
    return sum_key(services, row) if is_tuple_of(row, 2) and is_number(row[1]) else None


def cut_key(services, row):
    if not is_tuple_of(row, 3) or not is_number(row[2]) or row[2] == 0:
        return None
    if not all([is_service(services, name) for name in row[:2]]) or row[0] >= row[1]:
        return None
    return row[:2]


def told_key(services, row):
    if not is_tuple_of(row, 2) or not is_lot(row[0]) or not is_part(row[0], services) or not is_integer(row[1]):
        return None
    return row[:1]


def value_of(form, lot):
    """What a form assigns to a lot of its services."""
    work_out = VALUES[form[0]]
    return work_out(form, lot)


def sum_value(form, lot):
    return sum([number for name, number in form[1] if name in lot])


def cut_value(form, lot):
    return sum([number for one, other, number in form[1] if (one in lot) != (other in lot)])


def peak_value(form, lot):
    running = [number for name, number in form[1] if name in lot]
    resting = [number for name, number in form[2] if name not in lot]
    return max([0] + running + resting)


def told_value(form, lot):
    for told, number in form[1]:
        if told == lot:
            return number
    return 0


def most_value(form, lot):
    return max([value_of(inner, lot) for inner in form[1]])


LENGTHS = {"sum": 2, "cut": 2, "peak": 3, "told": 2, "most": 2}

FAULTS = {
    "sum": fault_in_sum,
    "cut": fault_in_cut,
    "peak": fault_in_peak,
    "told": fault_in_told,
    "most": fault_in_most,
}

VALUES = {
    "sum": sum_value,
    "cut": cut_value,
    "peak": peak_value,
    "told": told_value,
    "most": most_value,
}
