"""Depths: how far the entries of a log are from its newest one, and the logs with the shortest chains."""

from backlinks.checks import are_integers
from backlinks.errors import Different, InvalidPrices
from backlinks.links import require_log, require_size

MOST_PRICES = 60
MOST_PRICE = 10 ** 30


def depths_of(links):
    """Returns the list of the depths of the entries 0, 1, and so on."""
    require_log(links)
    return _depths(links)


def least_depth(size):
    """Returns the least greatest depth of a log of this size."""
    require_size(size)
    return size.bit_length() - 1


def flattest_log(size):
    """Returns a log of this size with the least greatest depth."""
    require_size(size)
    return _split_log(size, _middle)


def cost_of(links, prices):
    """Returns the cost of a log for prices, one for each entry."""
    require_log(links)
    _require_prices(prices)
    if len(prices) != len(links):
        raise Different("there are not as many prices as entries")
    return sum([price * depth for price, depth in zip(prices, _depths(links))])


def cheapest_cost(prices):
    """Returns the least cost of a log with as many entries as prices."""
    _require_prices(prices)
    rows, _ = _least_costs(prices)
    return rows[0][-1]


def cheapest_log(prices):
    """Returns a log with the least cost."""
    _require_prices(prices)
    rows, columns = _least_costs(prices)

    def best_split(first, last):
        costs = _costs_by_split(rows, columns, first, last)
        return first + costs.index(min(costs))

    return _split_log(len(prices), best_split)


def _depths(links):
    """Returns the depths of the entries of what is known to be a log."""
    depths = [len(links)] * len(links)
    depths[-1] = 0
    for entry in range(len(links) - 1, 0, -1):
        depth = depths[entry] + 1
        for below in (links[entry], entry - 1):
            if depth < depths[below]:
                depths[below] = depth
    return depths


def _split_log(size, split_of):
    """Returns the log in which the last entry of each part links to the entry at which the part is split.

    The parts: the whole log; of each part of several entries those up to the split, and those between it and the last
    entry. Shortest chains from the last entry of a part to its other entries stay in the part, and go by the link to
    the first of the two smaller parts and by the step to the second one.
    """
    links = [0] + list(range(size - 1))
    parts = [(0, size - 1)]
    while len(parts) > 0:
        first, last = parts.pop()
        if first < last:
            split = split_of(first, last)
            links[last] = split
            parts.append((first, split))
            parts.append((split + 1, last - 1))
    return links


def _middle(first, last):
    """Returns the split after which the two smaller parts have as many entries, or the first one has one more."""
    return (first + last - 1) // 2


def _least_costs(prices):
    """Returns the least costs of all parts, where the depths count from the last entry of the part.

    Row k holds them for the parts that begin with entry k, from the part of one entry on. Column k holds them for the
    parts that end with entry k, by their first entry, and behind these the cost of a part of no entry.
    """
    rows = [[0] for _ in prices]
    columns = []
    for last in range(len(prices)):
        column = [0] * (last + 2)
        # All entries but the last one are one step or link further away than in their smaller part.
        further = 0
        for first in range(last - 1, -1, -1):
            further = further + prices[first]
            column[first] = further + min(_costs_by_split(rows, columns, first, last))
            rows[first].append(column[first])
        columns.append(column)
    return rows, columns


def _costs_by_split(rows, columns, first, last):
    """Returns the least costs of the two smaller parts together, for each entry at which the part can be split."""
    return [low + high for low, high in zip(rows[first], columns[last - 1][first + 1:])]


def _require_prices(value):
    """Raises InvalidPrices if any value is not prices."""
    if not isinstance(value, list) or not 1 <= len(value) <= MOST_PRICES:
        raise InvalidPrices(f"these are not 1 to {MOST_PRICES} prices")
    if not are_integers(value) or min(value) < 0 or max(value) > MOST_PRICE:
        raise InvalidPrices("one of these is not a price")
