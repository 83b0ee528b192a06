"""Depths of entries, and the logs with the least greatest depth."""

import unittest

from backlinks.depths import depths_of, flattest_log, least_depth
from backlinks.links import is_log
from tests.plain import EXAMPLE, FLAT, LONG, MIXED, ONE, STEPS
from tests.plain import ExactCase, all_chains, all_logs, mixed_log


def searched_depths(links):
    """Returns the depths, by a search from the newest entry that goes one step or link further each time."""
    depths = {len(links) - 1: 0}
    reached = [len(links) - 1]
    while reached:
        further = [below for entry in reached if entry > 0 for below in (entry - 1, links[entry])]
        depth = depths[reached[0]] + 1
        reached = sorted({entry for entry in further if entry not in depths})
        depths.update({entry: depth for entry in reached})
    return [depths[entry] for entry in range(len(links))]


def deepest(links):
    """Returns the greatest depth of a log."""
    return max(searched_depths(links))


class DepthsOfTest(ExactCase):
    def test_examples(self):
        self.gives([1, 3, 2, 3, 2, 1, 0], depths_of, [0, 0, 0, 2, 3, 2, 0])

    def test_by_the_shortest_of_all_chains(self):
        for links in [links for size in range(1, 7) for links in all_logs(size)] + [EXAMPLE, mixed_log(12, 3)]:
            newest = len(links) - 1
            lengths = [min(len(chain) for chain in all_chains(links, newest, entry)) - 1 for entry in range(newest + 1)]
            self.gives(lengths, depths_of, links)
            self.assertEqual(lengths, searched_depths(links))

    def test_all_logs_of_seven_and_eight_entries(self):
        for links in all_logs(7) + all_logs(8)[::3]:
            self.gives(searched_depths(links), depths_of, links)

    def test_long_logs(self):
        for links in LONG + [mixed_log(150, seed) for seed in range(5, 25)] + [mixed_log(149, 4)]:
            self.gives(searched_depths(links), depths_of, links)
        self.gives([1] + list(range(148, -1, -1)), depths_of, FLAT)
        self.gives(list(range(149, -1, -1)), depths_of, STEPS)

    def test_smallest_logs(self):
        self.gives([0], depths_of, ONE)
        self.gives([1, 0], depths_of, [0, 0])
        self.gives([1, 1, 0], depths_of, [0, 0, 0])
        self.gives([2, 1, 0], depths_of, [0, 0, 1])

    def test_wrong_arguments(self):
        self.refuses_wrong_logs(depths_of, ())


class PointSeventeenTest(ExactCase):
    """Point 17's bound, on all small logs."""

    def test_the_greatest_depth_has_this_bound_and_some_log_reaches_it(self):
        for size in range(1, 9):
            depths = [deepest(links) for links in all_logs(size)]
            power = max(power for power in range(10) if 2 ** power <= size)
            self.assertEqual(min(depths), power)


class LeastDepthTest(ExactCase):
    def test_examples(self):
        self.gives(0, least_depth, 1)
        self.gives(2, least_depth, 7)
        self.gives(3, least_depth, 8)

    def test_all_logs_of_small_sizes(self):
        for size in range(1, 9):
            self.gives(min(deepest(links) for links in all_logs(size)), least_depth, size)

    def test_all_sizes(self):
        for size in range(1, 151):
            self.gives(max(power for power in range(10) if 2 ** power <= size), least_depth, size)

    def test_powers_of_two_and_their_neighbours(self):
        for power in range(1, 8):
            self.gives(power - 1, least_depth, 2 ** power - 1)
            self.gives(power, least_depth, 2 ** power)
            self.gives(power, least_depth, 2 ** power + 1)
        self.gives(7, least_depth, 149)
        self.gives(7, least_depth, 150)

    def test_wrong_arguments(self):
        self.refuses_wrong_sizes(least_depth)


class FlattestLogTest(ExactCase):
    def test_all_sizes(self):
        for size in range(1, 151):
            links = self.call(flattest_log, size)
            self.assertTrue(is_log(links))
            self.assertEqual(len(links), size)
            self.assertEqual(max(depths_of(links)), least_depth(size))
            self.assertEqual(deepest(links), least_depth(size))
            self.gives(list(links), flattest_log, size)

    def test_smallest_sizes(self):
        self.gives([0], flattest_log, 1)
        self.gives([0, 0], flattest_log, 2)
        self.gives([0, 0, 0], flattest_log, 3)

    def test_wrong_arguments(self):
        self.refuses_wrong_sizes(flattest_log)


class QuickTest(ExactCase):
    def test_they_are_quick(self):
        for links in LONG + MIXED:
            self.is_quick(0.02, depths_of, links)
        self.is_quick(0.02, flattest_log, 150)
        self.is_quick(0.002, least_depth, 150)


if __name__ == "__main__":
    unittest.main()
