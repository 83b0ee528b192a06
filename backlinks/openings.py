"""Openings: what a growing log may link to, with the ways to go on, by which logs are numbered.

Before a log, in ascending order, come all those that begin as it does up to some entry, and then have a lower link. So
the number of a log is the sum, over its entries, of the ways to go on from a lower link.
"""

from math import comb


class Openings:
    """The targets that are open to the next entry of a log while it grows to its size."""

    def __init__(self, size):
        self.targets = [0]
        self.left = size - 1
        self.below = 0
        self._ways = 0
        self._set_ways(comb(2 * size - 2, size - 1) // size)

    def close_last(self):
        """Closes the last open target."""
        self.targets.pop()
        self._set_ways(self.below)

    def link_next(self, entry):
        """Links the next entry to the last open target."""
        self.targets.append(entry)
        self.left = self.left - 1
        self._set_ways(self._ways - self.below)

    def _set_ways(self, ways):
        """Keeps the number of ways to link all entries that are left, and of those of them not to the last target."""
        self._ways = ways
        self.below = 0
        many = len(self.targets)
        if many > 1:
            # These are ballot numbers: each link closes some of the open targets, and opens one.
            self.below = ways * (many - 1) * (self.left + many) // (many * (2 * self.left + many - 1))


def links_with_number(openings, size, number):
    """Returns the log with a number among those to which fresh openings can grow."""
    links = [0]
    left = number
    for entry in range(1, size):
        while left < openings.below:
            openings.close_last()
        left = left - openings.below
        links.append(openings.targets[-1])
        openings.link_next(entry)
    return links


def number_of_links(openings, links):
    """Returns the number of a log among those to which fresh openings can grow."""
    number = 0
    for entry in range(1, len(links)):
        while openings.targets[-1] > links[entry]:
            openings.close_last()
        number = number + openings.below
        openings.link_next(entry)
    return number
