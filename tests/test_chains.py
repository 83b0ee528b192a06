"""Chains, shortest chains, and entries that every chain contains."""

import unittest

from backlinks.chains import avoiding_chain, is_chain, lies_on_every, shortest_chain
from backlinks.errors import InvalidLog
from tests.plain import EXAMPLE, FLAT, LONG, NOT_CHAINS, NOT_LOGS, ONE, PAIRS, STEPS
from tests.plain import ExactCase, all_chains, small_spans

class IsChainTest(ExactCase):
    def test_chains_of_the_sample_log(self):
        for chain in [[5, 2, 0], [5, 4, 3, 2, 1, 0], [6, 0], [6, 5, 2], [0], [6], [3, 2], [4, 3]]:
            self.gives(True, is_chain, EXAMPLE, chain)

    def test_all_chains_of_small_logs(self):
        for links, start, end in small_spans():
            for chain in all_chains(links, start, end):
                self.gives(True, is_chain, links, chain)

    def test_all_short_lists(self):
        for links in [[0], [0, 0], [0, 0, 0], [0, 0, 1, 1], [0, 0, 0, 2, 0]]:
            entries = range(-1, len(links) + 1)
            chains = [chain for start in range(len(links)) for end in range(start + 1)
                      for chain in all_chains(links, start, end)]
            lists = [[a] for a in entries] + [[a, b] for a in entries for b in entries]
            lists += [[a, b, c] for a in entries for b in entries for c in entries]
            for value in lists:
                self.gives(value in chains, is_chain, links, value)

    def test_entry_0_has_no_link(self):
        self.gives(True, is_chain, ONE, [0])
        self.gives(False, is_chain, ONE, [0, 0])
        self.gives(False, is_chain, EXAMPLE, [6, 0, 0])
        self.gives(False, is_chain, FLAT, [149, 0, 0])

    def test_long_logs(self):
        down = list(range(149, -1, -1))
        for links in LONG:
            self.gives(True, is_chain, links, down)
            self.gives(True, is_chain, links, [149])
            self.gives(True, is_chain, links, [149, links[149]])
            self.gives(False, is_chain, links, [150] + down)
            self.gives(False, is_chain, links, [150])
            self.gives(False, is_chain, links, down + [-1])
            self.gives(False, is_chain, links, down + [0])
            self.gives(False, is_chain, links, down[:70] + down[71:72] + down[70:])
        self.gives(True, is_chain, FLAT, [149, 0])
        self.gives(False, is_chain, STEPS, [149, 147])

    def test_wrong_values(self):
        for wrong in NOT_CHAINS:
            self.gives(False, is_chain, EXAMPLE, wrong)

    def test_wrong_logs(self):
        for wrong in NOT_LOGS:
            for value in ([0], [1, 0], [], None, "0", wrong):
                self.refuses(InvalidLog, is_chain, wrong, value)


class ShortestChainTest(ExactCase):
    def test_examples(self):
        self.gives([6, 5, 2, 1], shortest_chain, EXAMPLE, 6, 1)
        self.gives([5, 2, 0], shortest_chain, EXAMPLE, 5, 0)

    def test_small_logs(self):
        for links, start, end in small_spans():
            chains = all_chains(links, start, end)
            least = min(len(chain) for chain in chains)
            shortest = [chain for chain in chains if len(chain) == least]
            self.assertEqual(len(shortest), 1)
            self.gives(shortest[0], shortest_chain, links, start, end)

    def test_start_equal_to_end(self):
        for links in LONG:
            for entry in (0, 1, 74, 149):
                self.gives([entry], shortest_chain, links, entry, entry)
        self.gives([0], shortest_chain, ONE, 0, 0)

    def test_long_logs(self):
        self.gives([149, 0], shortest_chain, FLAT, 149, 0)
        self.gives(list(range(149, 0, -1)), shortest_chain, FLAT, 149, 1)
        self.gives(list(range(149, -1, -1)), shortest_chain, STEPS, 149, 0)
        self.gives([149] + list(range(148, -1, -2)), shortest_chain, PAIRS, 149, 0)
        self.gives([149] + list(range(148, 6, -2)) + [7], shortest_chain, PAIRS, 149, 7)

    def test_long_logs_have_no_shorter_chain(self):
        for links in LONG:
            for end in (0, 1, 30, 100, 148, 149):
                length = {end: 1}
                for entry in range(end + 1, 150):
                    length[entry] = 1 + min(length[entry - 1], length.get(links[entry], 150))
                for start in (149, 120, 100):
                    if start >= end:
                        chain = self.call(shortest_chain, links, start, end)
                        self.assertEqual((len(chain), chain[0], chain[-1]), (length[start], start, end))
                        self.gives(True, is_chain, links, chain)

    def test_wrong_arguments(self):
        self.refuses_wrong_spans(lambda links, start, end: shortest_chain(links, start, end))


class LiesOnEveryTest(ExactCase):
    def test_examples(self):
        self.gives(True, lies_on_every, EXAMPLE, 5, 0, 2)

    def test_small_logs(self):
        for links, start, end in small_spans():
            chains = all_chains(links, start, end)
            for entry in range(len(links)):
                wanted = all(entry in chain for chain in chains)
                self.gives(wanted, lies_on_every, links, start, end, entry)

    def test_entries_outside_of_the_range(self):
        for entry in (0, 1, 6):
            self.gives(False, lies_on_every, EXAMPLE, 5, 2, entry)
        for entry in (0, 49, 101, 149):
            self.gives(False, lies_on_every, STEPS, 100, 50, entry)
        for entry in (50, 75, 100):
            self.gives(True, lies_on_every, STEPS, 100, 50, entry)

    def test_start_and_end_lie_on_every_chain(self):
        for links in LONG:
            for start, end in [(0, 0), (149, 0), (149, 149), (100, 3)]:
                self.gives(True, lies_on_every, links, start, end, start)
                self.gives(True, lies_on_every, links, start, end, end)

    def test_a_log_with_very_many_chains(self):
        for entry in range(149):
            self.gives(entry % 2 == 0, lies_on_every, PAIRS, 148, 0, entry)
        self.gives(False, lies_on_every, PAIRS, 148, 0, 149)

    def test_wrong_arguments(self):
        self.refuses_wrong_spans(lambda links, start, end: lies_on_every(links, start, end, 0))
        self.refuses_wrong_entries(lies_on_every)


class AvoidingChainTest(ExactCase):
    def avoids(self, links, start, end, entry):
        chain = self.call(avoiding_chain, links, start, end, entry)
        self.gives(True, is_chain, links, chain)
        self.assertEqual((chain[0], chain[-1]), (start, end))
        self.assertNotIn(entry, chain)

    def test_examples(self):
        self.gives([6, 0], avoiding_chain, EXAMPLE, 6, 0, 2)

    def test_small_logs(self):
        for links, start, end in small_spans():
            chains = all_chains(links, start, end)
            for entry in range(len(links)):
                if all(entry in chain for chain in chains):
                    self.gives(None, avoiding_chain, links, start, end, entry)
                else:
                    self.avoids(links, start, end, entry)

    def test_entries_outside_of_the_range(self):
        for entry in (0, 1, 6):
            self.avoids(EXAMPLE, 5, 2, entry)
        for links in LONG:
            for entry in (0, 49, 101, 149):
                self.avoids(links, 100, 50, entry)
                self.avoids(links, 100, 100, entry)

    def test_start_and_end_are_not_avoided(self):
        for links in LONG:
            for start, end in [(0, 0), (149, 0), (149, 149), (100, 3)]:
                self.gives(None, avoiding_chain, links, start, end, start)
                self.gives(None, avoiding_chain, links, start, end, end)

    def test_a_log_with_very_many_chains(self):
        for entry in range(149):
            if entry % 2 == 0:
                self.gives(None, avoiding_chain, PAIRS, 148, 0, entry)
            else:
                self.avoids(PAIRS, 148, 0, entry)

    def test_equal_arguments_give_equal_results(self):
        for links, start, end in small_spans():
            for entry in range(len(links)):
                self.same(avoiding_chain(list(links), start, end, entry), avoiding_chain(links, start, end, entry))

    def test_each_result_is_a_list_of_its_own(self):
        chain = avoiding_chain(EXAMPLE, 6, 0, 2)
        wanted = list(chain)
        chain.append(2)
        self.same(avoiding_chain(EXAMPLE, 6, 0, 2), wanted)

    def test_wrong_arguments(self):
        self.refuses_wrong_spans(lambda links, start, end: avoiding_chain(links, start, end, 0))
        self.refuses_wrong_entries(avoiding_chain)


if __name__ == "__main__":
    unittest.main()
