"""Prices: what changes cost."""

from stopsfirst.basics import is_integer, is_number, is_sequence
from stopsfirst.errors import InvalidPrices
from stopsfirst.lots import is_name, less


class Prices:
    """What it costs to start and to stop services, to change anything, and to wait until services have started."""

    def __init__(self, starts, stops, *, fee=0, waits=()):
        self.starts = kept_numbers(starts, 0, False)
        self.stops = kept_numbers(stops, 1, False)
        self._starts = by_name(self.starts)
        self._stops = by_name(self.stops)
        check_sums(self._starts, self._stops)
        if not is_number(fee):
            raise InvalidPrices(3)
        self.waits = kept_numbers(waits, 4, True)
        self._waits = by_name(self.waits)
        self.fee = fee

    def __eq__(self, other):
        return (isinstance(other, Prices) and self.starts == other.starts and self.stops == other.stops
                and self.waits == other.waits and self.fee == other.fee)

    def start_price(self, name):
        return self._starts.get(name, 0)

    def stop_price(self, name):
        return self._stops.get(name, 0)

    def wait_of(self, name):
        return self._waits.get(name, 0)

    def of_change(self, one, other):
        if one == other:
            return 0
        started = less(other, one)
        price = self.fee + sum([self.start_price(name) for name in started])
        price += sum([self.stop_price(name) for name in less(one, other)])
        return price + max([self.wait_of(name) for name in started], default=0)

    def of_plan(self, plan):
        return sum([self.of_change(plan[at - 1], plan[at]) for at in range(1, len(plan))])

    def round_trips(self):
        names = sorted(set(list(self._starts) + list(self._stops)))
        sums = [(name, self.start_price(name) + self.stop_price(name)) for name in names]
        return Prices(sums, (), fee=self.fee, waits=self.waits)

    def shifted(self, name, by):
        starts = with_more(self._starts, name, by)
        stops = with_more(self._stops, name, -by)
        return Prices(starts, stops, fee=self.fee, waits=self.waits)


def kept_numbers(value, at, from_zero):
    """Any value as ascending pairs of a name and an integer, without those that have 0."""
    if not is_sequence(value):
        raise InvalidPrices(at)
    names = {}
    for pair in value:
        if not is_priced_name(pair, from_zero) or pair[0] in names:
            raise InvalidPrices(at)
        names[pair[0]] = pair[1]
    return tuple([(name, names[name]) for name in sorted(names) if names[name] != 0])


def is_priced_name(pair, from_zero):
    if not is_sequence(pair) or len(pair) != 2 or not is_name(pair[0]):
        return False
    return is_number(pair[1]) if from_zero else is_integer(pair[1])


def by_name(pairs):
    return {name: number for name, number in pairs}


def check_sums(starts, stops):
    for name in list(starts) + list(stops):
        if starts.get(name, 0) + stops.get(name, 0) < 0:
            raise InvalidPrices(2)


def with_more(numbers, name, by):
    """The pairs of a dict of numbers, with one that is greater."""
    changed = {told: numbers[told] for told in numbers}
    changed[name] = changed.get(name, 0) + by
    return [(told, changed[told]) for told in changed]
