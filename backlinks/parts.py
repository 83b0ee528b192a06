"""Parts: how known links split a log, and in how many ways the entries of each part can be linked.

A known link leaves the entries that it passes over to themselves: none of them may link below its target, and no later
entry may link to one of them. These entries are a part, which ends before the known entry. All entries behind entry 0
are a part, too, which ends before the size. The own entries of a part are those that no smaller part in it contains.
"""

from itertools import accumulate


class Parts:
    """The parts of the logs of a size with known links that do not cross. Each part has the name of its end."""

    def __init__(self, size, known):
        self.known = known
        # The part of which an entry is an own entry.
        self.part_of = {}
        # The ways to link an entry and all later own entries of its part, and all entries of the smaller parts between
        # these: item k holds them for k + 1 open targets. If the entry is known, the part before it is left out, and
        # the targets are those that were open when its target was the newest entry.
        self.rows = {}
        # The ways to link all entries of a part.
        self.counts = {}
        # What is smaller than a part, and lies in it, ends before it.
        for end in sorted(known) + [size]:
            self._add_part(end)

    def base_of(self, part):
        """Returns the entry just before the part, the lowest one to which its entries may link."""
        return self.known.get(part, 0)

    def _add_part(self, end):
        """Counts the ways of a part of which all smaller parts are counted."""
        base = self.base_of(end)
        ways = [1] * (end - base)
        entry = end - 1
        while entry > base:
            self.part_of[entry] = end
            # With each entry, however it is linked, one target is opened.
            later = ways[1:entry - base + 1]
            if entry in self.known:
                self.rows[entry] = later
                ways = [self.counts[entry] * many for many in later]
                entry = self.known[entry]
            else:
                # The entry may link to each open target, and closes those above this one.
                ways = list(accumulate(later))
                self.rows[entry] = ways
                entry = entry - 1
        self.counts[end] = ways[0]


class KnownOpenings:
    """The targets that are open to the next entry while a log with known links grows: Openings for completions."""

    def __init__(self, size, known):
        self.parts = Parts(size, known)
        self.size = size
        self.known = known
        self.targets = []
        self.below = 0
        # How many targets were open when an entry was the newest one.
        self._heights = []
        # The ways to link the entry at which a part ends, and all later ones.
        self._ways_behind = {size: 1}
        self._parts_from = _parts_by_base(known)
        self.link_next(0)

    def close_last(self):
        """Closes the last open target."""
        self.targets.pop()
        self._find_below(len(self._heights))

    def link_next(self, entry):
        """Links the next entry to the last open target, or begins the log with entry 0."""
        self.targets.append(entry)
        self._heights.append(len(self.targets))
        for part in self._parts_from.get(entry, []):
            self._ways_behind[part] = self._ways_with(part, len(self.targets))
        self._find_below(entry + 1)

    def _find_below(self, entry):
        """Keeps the number of ways to link the next entry not to the last target, and to link all later ones."""
        self.below = 0
        if entry in self.known:
            if self.targets[-1] > self.known[entry]:
                self.below = self._ways_behind[entry]
        elif entry < self.size:
            self.below = self._ways_with(entry, len(self.targets) - 1)

    def _ways_with(self, entry, many):
        """Returns the number of ways to link an entry and all later ones if only the first so many targets are open."""
        part = self.parts.part_of[entry]
        # Below its base the part has no targets.
        at = many - self._heights[self.parts.base_of(part)]
        return self.parts.rows[entry][at] * self._ways_behind[part] if at >= 0 else 0


def _parts_by_base(known):
    """Returns a dict from each base to the parts of known links that begin there, the greatest part first."""
    parts = {}
    for part in sorted(known, reverse=True):
        parts.setdefault(known[part], []).append(part)
    return parts
