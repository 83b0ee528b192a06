"""Openings: what a growing log may link to, with the ways to go on, by which logs are numbered."""

from math import comb


class Openings:
    """The targets that are open to the next entry of a log while it grows to its size."""

    def __init__(self, size):
        self.size = size
        self.targets = [0]

    def ways_below(self, at, entry):
        """Returns the number of ways to link the next entry and all later ones.

        The next entry gets one of the targets before the one with the index at.
        """
        # The ballot numbers: each later link closes some of the open targets, and opens one.
        left = self.size - entry
        return at * comb(2 * left + at - 1, left) // (left + at)

    def take(self, at, entry):
        """Links the next entry to the target with the index at."""
        self.targets = self.targets[:at + 1] + [entry]


class KnownOpenings(Openings):
    """The open targets where some links are known, and no two of these cross."""

    def __init__(self, size, known):
        super().__init__(size)
        self.known = known
        self.parts = count_parts(size, known)
        # Row k holds, for each entry, the ways to go on from it if only the first k targets are open to it.
        self.rows = [[0] * size + [1]]
        self._add_row(0)

    def ways_below(self, at, entry):
        """Returns the number of ways to link the next entry and all later ones.

        The next entry gets one of the targets before the one with the index at.
        """
        return self.rows[at][entry]

    def take(self, at, entry):
        """Links the next entry to the target with the index at."""
        self.targets = self.targets[:at + 1] + [entry]
        self.rows = self.rows[:at + 2]
        self._add_row(entry)

    def _add_row(self, target):
        """Adds the row for a target that is opened above the other ones."""
        below = self.rows[-1]
        row = list(below)
        for entry in range(self.size - 1, target, -1):
            if self.known.get(entry, target) == target:
                # The entry begins a part of its own, and the entry behind this part has the same open targets.
                ways = [part * later for part, later in zip(self.parts[entry][entry:], row[entry + 1:])]
                row[entry] = below[entry] + sum(ways)
        self.rows.append(row)


def count_parts(size, known):
    """Returns for each first and last entry the number of ways to link the entries behind the first one up to the last.

    No link leads below the first entry, and the known links are as they are known.
    """
    parts = [[0] * size for _ in range(size)]
    for first in range(size - 1, -1, -1):
        row = parts[first]
        row[first] = 1
        for last in range(first + 1, size):
            # A known link that leads below the first entry leaves no way for the longer parts either.
            if known.get(last, first) < first:
                break
            targets = [known[last]] if last in known else list(range(first, last))
            # The last link splits the part: what it passes over, and what lies below, go their own ways.
            row[last] = sum([row[target] * parts[target][last - 1] for target in targets])
    return parts


def links_with_number(openings, number):
    """Returns the log with a number among those to which fresh openings can grow."""
    links = [0]
    left = number
    for entry in range(1, openings.size):
        at = 0
        while openings.ways_below(at + 1, entry) <= left:
            at = at + 1
        left = left - openings.ways_below(at, entry)
        links.append(openings.targets[at])
        openings.take(at, entry)
    return links


def number_of_links(openings, links):
    """Returns the number of a log among those to which fresh openings can grow."""
    number = 0
    for entry in range(1, openings.size):
        at = openings.targets.index(links[entry])
        number = number + openings.ways_below(at, entry)
        openings.take(at, entry)
    return number
