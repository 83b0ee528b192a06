"""Walks over the chains of a log."""

import unittest

from backlinks.chains import count_chains, nth_chain, walk_chains
from tests.plain import EXAMPLE, FLAT, LONG, MIXED, ONE, PAIRS, STEPS
from tests.plain import ExactCase, all_chains, small_spans


def walked(links, start, end):
    """Returns all that a walk yields."""
    return list(walk_chains(links, start, end))


def first_of_walk(links, start, end):
    """Returns the first chain that a walk yields."""
    return next(walk_chains(links, start, end))


def some_of_walk(links, start, end, many):
    """Returns the first chains that a walk yields, and leaves it."""
    walk = walk_chains(links, start, end)
    return [next(walk) for _ in range(many)]


class WalkChainsTest(ExactCase):
    def test_examples(self):
        self.gives([[5, 2], [5, 4, 3, 2]], walked, EXAMPLE, 5, 2)

    def test_small_logs(self):
        for links, start, end in small_spans():
            self.gives(all_chains(links, start, end), walked, links, start, end)

    def test_start_equal_to_end(self):
        for links in LONG + [ONE]:
            for entry in (0, len(links) - 1):
                self.gives([[entry]], walked, links, entry, entry)

    def test_long_logs(self):
        flat = [list(range(149, entry - 1, -1)) + [0] for entry in range(149, 0, -1)]
        self.gives(flat, walked, FLAT, 149, 0)
        self.gives([list(range(149, 0, -1))], walked, FLAT, 149, 1)
        self.gives([list(range(149, -1, -1))], walked, STEPS, 149, 0)

    def test_all_numbers_of_a_walk(self):
        for links in MIXED + [PAIRS]:
            chains = self.call(walked, links, 149, 135)
            self.assertEqual(len(chains), count_chains(links, 149, 135))
            for number, chain in enumerate(chains):
                self.same(chain, nth_chain(links, 149, 135, number))

    def test_it_is_a_walk_of_its_own(self):
        walk = walk_chains(EXAMPLE, 5, 0)
        self.assertIs(iter(walk), walk)
        self.assertEqual(len(list(walk)), 4)
        self.assertEqual(list(walk), [])

    def test_chains_are_found_when_they_are_asked_for(self):
        for links in [PAIRS] + MIXED:
            many = min(200, count_chains(links, 149, 0))
            chains = self.call(some_of_walk, links, 149, 0, many)
            for number, chain in enumerate(chains):
                self.same(chain, nth_chain(links, 149, 0, number))

    def test_a_walk_that_is_left_early(self):
        chains = all_chains(EXAMPLE, 5, 0)
        for many in range(len(chains) + 1):
            self.same(some_of_walk(EXAMPLE, 5, 0, many), chains[:many])
        walk = walk_chains(EXAMPLE, 5, 0)
        self.same(next(walk), chains[0])
        walk.close()
        self.same(list(walk), [])
        self.same(walked(EXAMPLE, 5, 0), chains)
        for chain in walk_chains(PAIRS, 148, 0):
            self.same(chain, list(range(148, -1, -2)))
            break

    def test_two_walks_at_the_same_time(self):
        spans = [(EXAMPLE, 5, 0), (EXAMPLE, 5, 0), (EXAMPLE, 6, 0), (EXAMPLE, 5, 2), ([0, 0, 0, 0, 0, 0], 5, 0)]
        for one in spans:
            for other in spans:
                first, second = walk_chains(*one), walk_chains(*other)
                found, beside = [next(first)], []
                for chain in second:
                    beside.append(chain)
                    found += [next(first)] if len(found) < count_chains(*one) else []
                found += list(first)
                self.same(found, all_chains(*one))
                self.same(beside, all_chains(*other))

    def test_other_calls_between_two_chains(self):
        found = []
        for chain in walk_chains(EXAMPLE, 5, 0):
            found.append(chain)
            self.gives(4, count_chains, EXAMPLE, 5, 0)
            self.gives([5, 4, 3, 2, 0], nth_chain, EXAMPLE, 5, 0, 2)
        self.same(found, all_chains(EXAMPLE, 5, 0))

    def test_changing_a_chain_changes_no_later_one(self):
        for change in (lambda chain: chain.clear(), lambda chain: chain.append(9), lambda chain: chain.reverse(),
                       lambda chain: chain.pop(), lambda chain: chain.insert(0, -1)):
            found = []
            for chain in walk_chains(EXAMPLE, 6, 0):
                found.append(list(chain))
                change(chain)
            self.same(found, all_chains(EXAMPLE, 6, 0))
            self.same(walked(EXAMPLE, 6, 0), all_chains(EXAMPLE, 6, 0))

    def test_each_chain_is_a_list_of_its_own(self):
        chains = walked(EXAMPLE, 6, 0) + walked(EXAMPLE, 6, 0)
        self.assertEqual(len({id(chain) for chain in chains}), len(chains))

    def test_wrong_arguments(self):
        self.refuses_wrong_spans(first_of_walk)


if __name__ == "__main__":
    unittest.main()
