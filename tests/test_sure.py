"""Entries that are sure beside known links, and logs with chains that skip an entry."""

import unittest

from backlinks.chains import shortest_chain
from backlinks.errors import InvalidEntry
from backlinks.known import are_known, known_crossing, skipping_log, sure_entries
from backlinks.links import is_log
from tests.plain import EXAMPLE, GREAT, LONG, MIXED, NOT_INTEGERS, ONE, PAIRS, STEPS
from tests.plain import ExactCase, all_chains, all_known, all_logs, has_links, known_crossings, known_of

EVEN_TO_0 = {entry: 0 for entry in range(2, 150, 2)}
NO_ENTRIES = NOT_INTEGERS + [-1, -2, GREAT, -GREAT]


def spans_of(size):
    """Returns all tuples of a start and an end of the logs of a size."""
    return [(start, end) for start in range(size) for end in range(start + 1)]


def on_all_chains(links):
    """Returns a dict from each start and end to the set of the entries that every chain contains, by a search."""
    return {(start, end): set.intersection(*map(set, all_chains(links, start, end)))
            for start, end in spans_of(len(links))}


def small_known(most):
    """Yields sizes with known links that do not cross, and the sets of entries on all chains of each completion."""
    for size in range(1, most + 1):
        logs = [(links, on_all_chains(links)) for links in all_logs(size)]
        for known in all_known(size):
            if not known_crossings(known):
                yield size, known, [sets for links, sets in logs if has_links(links, known)]


def chain_beside(links, start, end, entry):
    """Returns whether some chain from start to end does not contain the entry, by a search entry by entry."""
    reached = {start} - {entry}
    for above in range(start, end, -1):
        if above in reached:
            reached |= {below for below in (above - 1, links[above]) if below >= end and below != entry}
    return end in reached


class SpanCase(ExactCase):
    """Checks that both functions share."""

    def refuses_wrong_beginnings(self, function, *rest):
        """Fails unless the function refuses wrong sizes, known links, crossings, starts and ends, in this order."""
        for span in [(0, 0), (1, 2), (None, None), (-1, "0"), (True, GREAT), (150, 150)]:
            for known in ({}, None, {3: 1, 2: 0}, {True: 0}):
                self.refuses_wrong_sizes(function, known, *span, *rest)
            self.refuses_wrong_known(function, *span, *rest)
            self.refuses_crossings(function, *span, *rest)
        for size, known in [(7, {2: 0}), (1, {}), (2, {1: 0}), (149, {}), (150, EVEN_TO_0)]:
            for wrong in NO_ENTRIES + [size, size + 1, 151]:
                self.refuses(InvalidEntry, function, size, known, wrong, 0, *rest)
                self.refuses(InvalidEntry, function, size, known, wrong, wrong, *rest)
                self.refuses(InvalidEntry, function, size, known, size - 1, wrong, *rest)
                self.refuses(InvalidEntry, function, size, known, 0, wrong, *rest)
            self.refuses(InvalidEntry, function, size, known, 0, 1, *rest)
            self.refuses(InvalidEntry, function, size, known, size - 2, size - 1, *rest)


class PointThirteenTest(ExactCase):
    """Point 13's "if and only if", which both functions rest on."""

    def may_be_passed(self, size, known, start, end, entry):
        """Returns whether point 13 says that the entry is not sure, by its words."""
        if entry < end or entry > start:
            return True
        for target in range(end, entry):
            for above in range(entry + 1, start + 1):
                if known.get(above, target) == target:
                    more = {**known, above: target}
                    self.assertTrue(are_known(size, more))
                    if not known_crossings(more):
                        return True
        return False

    def test_small_sizes(self):
        for size, known, completions in small_known(5):
            for start, end in spans_of(size):
                for entry in range(size):
                    sure = all(entry in sets[start, end] for sets in completions)
                    self.assertEqual(self.may_be_passed(size, known, start, end, entry), not sure)


class SureEntriesTest(SpanCase):
    def test_examples(self):
        self.gives([0, 3], sure_entries, 4, {}, 3, 0)
        self.gives([0, 1, 2, 3], sure_entries, 4, {2: 1, 3: 2}, 3, 0)

    def test_all_of_small_sizes(self):
        for size, known, completions in small_known(6):
            for start, end in spans_of(size):
                wanted = set.intersection(*[sets[start, end] for sets in completions])
                self.gives(sorted(wanted), sure_entries, size, known, start, end)

    def test_no_known_link(self):
        for size in (3, 149, 150):
            self.gives([0, size - 1], sure_entries, size, {}, size - 1, 0)
            self.gives([1, size - 1], sure_entries, size, {}, size - 1, 1)
            self.gives([size - 2, size - 1], sure_entries, size, {}, size - 1, size - 2)
        self.gives([0], sure_entries, 1, {}, 0, 0)
        self.gives([0, 1], sure_entries, 2, {}, 1, 0)
        self.gives([50, 52], sure_entries, 150, {}, 52, 50)

    def test_start_equal_to_end(self):
        for known in ({}, EVEN_TO_0, {149: 0}, known_of(STEPS, range(1, 150)), known_of(PAIRS, range(1, 150))):
            for entry in (0, 1, 75, 148, 149):
                self.gives([entry], sure_entries, 150, known, entry, entry)

    def test_few_known_links(self):
        self.gives([0, 75, 149], sure_entries, 150, {149: 75}, 149, 0)
        self.gives([10, 75, 148], sure_entries, 150, {149: 75}, 148, 10)
        self.gives([0, 30, 75, 149], sure_entries, 150, {149: 75, 75: 30}, 149, 0)
        self.gives([0, 30, 75, 149], sure_entries, 150, {75: 30, 149: 75}, 149, 0)
        self.gives([0, 147, 148, 149], sure_entries, 150, {149: 148, 148: 147}, 149, 0)
        self.gives([40, 74, 75, 149], sure_entries, 150, {75: 0}, 149, 40)
        self.gives([0, 149], sure_entries, 150, {75: 74}, 149, 0)
        self.gives([30, 120], sure_entries, 150, {100: 50}, 120, 30)
        self.gives([0, 148, 149], sure_entries, 150, {149: 148}, 149, 0)
        self.gives([0, 1, 149], sure_entries, 150, {149: 1, 1: 0}, 149, 0)

    def test_many_known_links(self):
        self.gives([0, 148, 149], sure_entries, 150, {**EVEN_TO_0, 149: 148}, 149, 0)
        self.gives([0, 149], sure_entries, 150, EVEN_TO_0, 149, 0)
        self.gives(list(range(1, 150)), sure_entries, 150, EVEN_TO_0, 149, 1)
        evens = known_of(PAIRS, range(2, 150, 2))
        self.gives(list(range(0, 150, 2)), sure_entries, 150, evens, 148, 0)
        self.gives(list(range(50, 101, 2)), sure_entries, 150, evens, 100, 50)
        self.gives([0, 149], sure_entries, 150, evens, 149, 0)

    def test_all_links_known(self):
        self.gives(list(range(150)), sure_entries, 150, known_of(STEPS, range(1, 150)), 149, 0)
        for links in LONG + [ONE, EXAMPLE, [0, 0]]:
            size = len(links)
            for entries in (range(1, size), range(size - 1, 0, -1)):
                for start, end in {(size - 1, 0), (size - 1, size // 3), (size // 2, size // 3), (size // 2, 0)}:
                    wanted = sorted(shortest_chain(links, start, end))
                    self.gives(wanted, sure_entries, size, known_of(links, entries), start, end)

    def test_one_unknown_entry(self):
        for links in MIXED:
            for unknown in (2, 60, 149):
                known = known_of(links, [entry for entry in range(149, 0, -1) if entry != unknown])
                wanted = set(range(150))
                for target in range(unknown):
                    if not known_crossings({**known, unknown: target}):
                        wanted &= set(shortest_chain(links[:unknown] + [target] + links[unknown + 1:], 149, 0))
                self.gives(sorted(wanted), sure_entries, 150, known, 149, 0)

    def test_wrong_arguments(self):
        self.refuses_wrong_beginnings(sure_entries)


class SkippingLogTest(SpanCase):
    def skips(self, size, known, start, end, entry):
        """Fails unless the function gives a completion in which some chain does not contain the entry."""
        links = self.call(skipping_log, size, known, start, end, entry)
        self.gives(True, is_log, links)
        self.assertEqual(len(links), size)
        self.assertTrue(has_links(links, known))
        self.assertTrue(chain_beside(links, start, end, entry))
        kept = list(links)
        links.append(0)
        self.same(skipping_log(size, dict(reversed(known.items())), start, end, entry), kept)

    def test_examples(self):
        self.gives(None, skipping_log, 4, {2: 1, 3: 2}, 3, 0, 1)

    def test_all_of_small_sizes(self):
        for size, known, completions in small_known(5):
            for start, end in spans_of(size):
                for entry in range(size):
                    if all(entry in sets[start, end] for sets in completions):
                        self.gives(None, skipping_log, size, known, start, end, entry)
                    else:
                        self.skips(size, known, start, end, entry)

    def test_entries_outside_of_the_range(self):
        for known in ({}, EVEN_TO_0, {149: 75}, known_of(STEPS, range(1, 150)), known_of(PAIRS, range(1, 150))):
            for entry in (0, 49, 101, 149):
                self.skips(150, known, 100, 50, entry)
                self.skips(150, known, 100, 100, entry)
        self.skips(2, {}, 0, 0, 1)
        self.skips(2, {1: 0}, 1, 1, 0)

    def test_start_and_end_are_not_skipped(self):
        for known in ({}, EVEN_TO_0, {149: 75}, known_of(STEPS, range(1, 150)), known_of(PAIRS, range(1, 150))):
            for start, end in [(0, 0), (149, 0), (149, 149), (100, 3)]:
                self.gives(None, skipping_log, 150, known, start, end, start)
                self.gives(None, skipping_log, 150, known, start, end, end)
        self.gives(None, skipping_log, 1, {}, 0, 0, 0)

    def test_no_known_link(self):
        for size in (3, 149, 150):
            for entry in {1, size // 2, size - 2}:
                self.skips(size, {}, size - 1, 0, entry)
        self.skips(150, {}, 52, 50, 51)

    def test_few_and_many_known_links(self):
        for known, start, end in [({149: 75}, 149, 0), ({149: 75}, 148, 10), ({75: 0}, 149, 40), ({75: 74}, 149, 0),
                                  ({149: 75, 75: 30}, 149, 0), ({100: 50}, 120, 30), (EVEN_TO_0, 149, 0),
                                  (EVEN_TO_0, 149, 1), (known_of(PAIRS, range(2, 150, 2)), 148, 0)]:
            sure = sure_entries(150, known, start, end)
            for entry in list(range(0, 150, 7)) + [30, 74, 75, 76, 148, 149]:
                if entry in sure:
                    self.gives(None, skipping_log, 150, known, start, end, entry)
                else:
                    self.skips(150, known, start, end, entry)

    def test_all_links_known(self):
        for links in LONG:
            known = known_of(links, range(149, 0, -1))
            for start, end in [(149, 0), (120, 40)]:
                chain = shortest_chain(links, start, end)
                for entry in range(0, 150, 9):
                    if entry in chain:
                        self.gives(None, skipping_log, 150, known, start, end, entry)
                    else:
                        self.gives(links, skipping_log, 150, known, start, end, entry)

    def test_each_result_is_a_list_of_its_own(self):
        for entry in (1, 3):
            one, other = skipping_log(4, {}, 2, 0, entry), skipping_log(4, {}, 2, 0, entry)
            self.same(one, other)
            one.clear()
            self.same(skipping_log(4, {}, 2, 0, entry), other)

    def test_wrong_arguments(self):
        for entry in (0, -1, None, "0"):
            self.refuses_wrong_beginnings(skipping_log, entry)

    def test_wrong_entries(self):
        for size, known in [(7, {2: 0}), (1, {}), (2, {1: 0}), (149, {}), (150, EVEN_TO_0)]:
            for wrong in NO_ENTRIES + [size, size + 1, 151, -size]:
                self.refuses(InvalidEntry, skipping_log, size, known, size - 1, 0, wrong)
                self.refuses(InvalidEntry, skipping_log, size, known, 0, 0, wrong)


class LessIsSureTest(ExactCase):
    def test_what_is_sure_stays_sure_with_more_known_links(self):
        for links in MIXED:
            known = {}
            sure = set(sure_entries(150, known, 149, 0))
            for entry in list(range(140, 0, -11)) + [149]:
                known[entry] = links[entry]
                self.gives(None, known_crossing, 150, known)
                more = set(sure_entries(150, known, 149, 0))
                self.assertTrue(sure <= more)
                sure = more
            self.assertTrue(sure <= set(shortest_chain(links, 149, 0)))


if __name__ == "__main__":
    unittest.main()
