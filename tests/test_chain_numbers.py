"""The numbers of chains, and the chains with a number."""

import unittest

from backlinks.chains import chain_number, count_chains, is_chain, nth_chain
from backlinks.errors import InvalidChain, InvalidEntry, InvalidLog, InvalidNumber
from tests.plain import EXAMPLE, FLAT, GREAT, LONG, MIXED, NOT_CHAINS, NOT_INTEGERS, NOT_LOGS, ONE, PAIRS, STEPS
from tests.plain import ExactCase, all_chains, small_spans


class CountChainsTest(ExactCase):
    def test_examples(self):
        self.gives(4, count_chains, EXAMPLE, 5, 0)

    def test_small_logs(self):
        for links, start, end in small_spans():
            self.gives(len(all_chains(links, start, end)), count_chains, links, start, end)

    def test_a_link_that_is_the_step_counts_once(self):
        self.gives(1, count_chains, [0, 0], 1, 0)
        self.gives(1, count_chains, [0, 0, 1, 2], 3, 0)
        self.gives(1, count_chains, STEPS, 149, 0)

    def test_long_logs(self):
        self.gives(1, count_chains, ONE, 0, 0)
        self.gives(149, count_chains, FLAT, 149, 0)
        self.gives(1, count_chains, FLAT, 149, 1)
        self.gives(2 ** 74, count_chains, PAIRS, 148, 0)
        self.gives(2 ** 74, count_chains, PAIRS, 149, 0)
        self.gives(2 ** 73, count_chains, PAIRS, 149, 1)
        self.gives(2 ** 49, count_chains, PAIRS, 148, 50)
        for links in LONG:
            for entry in (0, 70, 149):
                self.gives(1, count_chains, links, entry, entry)

    def test_wrong_arguments(self):
        self.refuses_wrong_spans(count_chains)


class NthChainTest(ExactCase):
    def test_examples(self):
        self.gives([5, 2, 1, 0], nth_chain, EXAMPLE, 5, 0, 1)

    def test_small_logs(self):
        for links, start, end in small_spans():
            chains = all_chains(links, start, end)
            for number, chain in enumerate(chains):
                self.gives(chain, nth_chain, links, start, end, number)
            for number in (-1, len(chains), len(chains) + 1):
                self.refuses(InvalidNumber, nth_chain, links, start, end, number)

    def test_first_and_last_number_of_very_many(self):
        many = 2 ** 74
        self.gives(list(range(148, -1, -2)), nth_chain, PAIRS, 148, 0, 0)
        self.gives(list(range(148, 1, -2)) + [1, 0], nth_chain, PAIRS, 148, 0, 1)
        self.gives([148, 147] + list(range(146, -1, -2)), nth_chain, PAIRS, 148, 0, many // 2)
        self.gives(list(range(148, -1, -1)), nth_chain, PAIRS, 148, 0, many - 1)
        for number in (-1, many, many + 1, GREAT, -GREAT):
            self.refuses(InvalidNumber, nth_chain, PAIRS, 148, 0, number)

    def test_start_equal_to_end(self):
        for links in LONG + [ONE]:
            for entry in (0, len(links) - 1):
                self.gives([entry], nth_chain, links, entry, entry, 0)
                self.refuses(InvalidNumber, nth_chain, links, entry, entry, 1)

    def test_wrong_numbers(self):
        for wrong in NOT_INTEGERS + [-1, 4, 5, GREAT, -GREAT]:
            self.refuses(InvalidNumber, nth_chain, EXAMPLE, 5, 0, wrong)
            self.refuses(InvalidNumber, nth_chain, ONE, 0, 0, wrong)

    def test_wrong_arguments(self):
        for number in (0, -1, None, True, GREAT):
            self.refuses_wrong_spans(lambda links, start, end: nth_chain(links, start, end, number))
        for wrong in (None, -1, 7, True):
            self.refuses(InvalidEntry, nth_chain, EXAMPLE, wrong, 0, "0")
            self.refuses(InvalidEntry, nth_chain, EXAMPLE, 5, wrong, "0")


class ChainNumberTest(ExactCase):
    def test_small_logs(self):
        for links, start, end in small_spans():
            for number, chain in enumerate(all_chains(links, start, end)):
                self.gives(number, chain_number, links, chain)

    def test_first_and_last_number_of_very_many(self):
        self.gives(0, chain_number, PAIRS, list(range(148, -1, -2)))
        self.gives(1, chain_number, PAIRS, list(range(148, 1, -2)) + [1, 0])
        self.gives(2 ** 74 - 1, chain_number, PAIRS, list(range(148, -1, -1)))
        self.gives(148, chain_number, FLAT, list(range(149, -1, -1)))
        self.gives(0, chain_number, FLAT, list(range(149, 0, -1)))
        self.gives(0, chain_number, STEPS, list(range(149, -1, -1)))

    def test_chains_of_one_entry(self):
        for links in LONG + [ONE, EXAMPLE]:
            for entry in (0, len(links) - 1):
                self.gives(0, chain_number, links, [entry])

    def test_long_logs_there_and_back(self):
        for links in MIXED + [PAIRS]:
            for start, end in [(149, 0), (148, 0), (149, 60), (120, 3)]:
                many = count_chains(links, start, end)
                numbers = [number for number in (0, 1, many // 3, many // 2, many - 2, many - 1) if 0 <= number < many]
                chains = [self.call(nth_chain, links, start, end, number) for number in numbers]
                for number, chain in zip(numbers, chains):
                    self.assertEqual((chain[0], chain[-1]), (start, end))
                    self.gives(True, is_chain, links, chain)
                    self.gives(number, chain_number, links, chain)
                for (number, chain), (other, later) in zip(zip(numbers, chains), zip(numbers[1:], chains[1:])):
                    self.assertEqual(number < other, chain < later)

    def test_wrong_chains(self):
        for wrong in NOT_CHAINS:
            self.refuses(InvalidChain, chain_number, EXAMPLE, wrong)
        for wrong in ([], [0, 0], [1], [-1], [False], [True], [0, -1], (0,), None, 0, "0", b"\x00", {0: 0}):
            self.refuses(InvalidChain, chain_number, ONE, wrong)

    def test_wrong_logs_come_first(self):
        for wrong in NOT_LOGS:
            for chain in ([0], [1, 0], [], None, [True], wrong):
                self.refuses(InvalidLog, chain_number, wrong, chain)


if __name__ == "__main__":
    unittest.main()
