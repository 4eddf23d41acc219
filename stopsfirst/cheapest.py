"""Plans that cost as little as possible."""

from stopsfirst.changes import Journey, plain_table


class Market(Journey):
    """The changes that fit, perhaps the plain ones alone, with what each costs.

    For each state there is a dict with the price of each change from it, in the order of the states behind.
    """

    def __init__(self, book, batches, prices, states, is_plain):
        Journey.__init__(self, book, batches, states)
        table = plain_table(self.field, self.leads) if is_plain else self.leads
        self.prices = priced(self.field, table, prices)


def priced(grid, table, prices):
    """The prices of the changes of a table that do anything."""
    return {mask: {other: prices.of_change(grid.lots[mask], grid.lots[other])
                   for other in grid.running if other != mask and table[mask] >> other & 1}
            for mask in grid.running}


def turned_around(prices):
    """The same changes, told from the state behind to the one before."""
    found = {mask: {} for mask in prices}
    for mask in prices:
        for other in prices[mask]:
            found[other][mask] = prices[mask][other]
    return found


def least_sums(prices, start):
    """For each state that is come to the least price, and with this price the fewest changes, as a pair.

    No way around costs less than nothing, so a state need only be gone on from when its pair has become less.
    """
    sums = {start: (0, 0)}
    level = [start]
    while level:
        lower = {}
        for mask in level:
            price, many = sums[mask]
            for other in prices[mask]:
                told = (price + prices[mask][other], many + 1)
                if other not in sums or told < sums[other]:
                    sums[other] = told
                    lower[other] = True
        level = list(lower)
    return sums


def least_prices(book, batches, prices, start):
    market = Market(book, batches, prices, (start,), False)
    return told_prices(market.field, least_sums(market.prices, market.ends[0]))


def told_prices(grid, sums):
    return tuple([(grid.lots[mask], sums[mask][0]) for mask in grid.running if mask in sums])


def least_price(book, batches, prices, start, goal):
    market = Market(book, batches, prices, (start, goal), False)
    sums = least_sums(market.prices, market.ends[0])
    return sums[market.ends[1]][0] if market.ends[1] in sums else None


def cheapest_plan(book, batches, prices, start, goal):
    market = Market(book, batches, prices, (start, goal), False)
    mask, end = market.ends
    sums = least_sums(turned_around(market.prices), end)
    if mask not in sums:
        return None
    way = [mask]
    while way[-1] != end:
        way.append(first_least(remaining(market.prices[way[-1]], sums)))
    return market.field.in_turn(way)


def tight_changes(book, batches, prices, start, goal):
    market = Market(book, batches, prices, (start, goal), False)
    grid = market.field
    before = least_sums(market.prices, market.ends[0])
    behind = least_sums(turned_around(market.prices), market.ends[1])
    if market.ends[1] not in before:
        return ()
    least = before[market.ends[1]][0]
    pairs = []
    for mask in grid.running:
        for other in grid.running:
            if mask in before and other in behind and other in market.prices[mask]:
                if before[mask][0] + market.prices[mask][other] + behind[other][0] == least:
                    pairs.append(grid.in_turn((mask, other)))
    return tuple(pairs)


def cheapest_three_part(book, batches, prices, start, goal):
    return cheapest_bent(Market(book, batches, prices, (start, goal), True))


def cheapest_merged(book, batches, prices, start, goal):
    return cheapest_bent(Market(book, batches, prices, (start, goal), False))


def cheapest_bent(market):
    """The first cheapest plan that stops services in its first and its last change only, or None."""
    mask, end = market.ends
    rest = sums_behind(market)
    way = [mask]
    choices = remaining(market.prices[mask], rest)
    while way[-1] != end:
        if not choices:
            return None
        way.append(first_least(choices))
        choices = remaining(later_changes(market, way[-1]), rest)
    return market.field.in_turn(way)


def sums_behind(market):
    """For each state from which a plan can go on after its first change what remains at least, as a pair.

    Before the last change only greater states can follow, and these have the greater masks.
    """
    rest = {market.ends[1]: (0, 0)}
    for mask in sorted(market.prices, reverse=True):
        choices = remaining(later_changes(market, mask), rest)
        if mask not in rest and choices:
            rest[mask] = choices[first_least(choices)]
    return rest


def later_changes(market, mask):
    """The changes behind the first one: to the end, or such that stop nothing."""
    prices = market.prices[mask]
    return {other: prices[other] for other in prices if other == market.ends[1] or mask & ~other == 0}


def remaining(prices, rest):
    return {other: (prices[other] + rest[other][0], 1 + rest[other][1]) for other in prices if other in rest}


def first_least(choices):
    least = min([choices[other] for other in choices])
    return [other for other in choices if choices[other] == least][0]
