"""Entries that chains have in common, and chains that have none."""

import itertools
import unittest

from backlinks.chains import is_chain, shortest_chain
from backlinks.errors import InvalidChain, InvalidEntry, InvalidLog
from backlinks.meetings import apart_chains, meeting_of, sure_meeting
from tests.plain import EXAMPLE, FLAT, GREAT, LONG, MIXED, NOT_CHAINS, NOT_INTEGERS, NOT_LOGS, ONE, PAIRS, STEPS
from tests.plain import ExactCase, all_chains, all_logs, mixed_log


def all_pairs_of_spans():
    """Yields each small log with all chains of each two pairs of a start and an end."""
    for links in [links for size in range(1, 6) for links in all_logs(size)] + [EXAMPLE, mixed_log(8, 0)]:
        spans = [(start, end) for start in range(len(links)) for end in range(start + 1)]
        chains = {span: all_chains(links, span[0], span[1]) for span in spans}
        for one in spans:
            for other in spans:
                yield links, one, other, chains[one], chains[other]


class MeetingOfTest(ExactCase):
    def test_examples(self):
        self.gives(5, meeting_of, EXAMPLE, [5, 2, 0], [6, 5, 4, 3, 2, 1])

    def test_one_chain(self):
        for links in (EXAMPLE, ONE):
            for start in range(len(links)):
                for end in range(start + 1):
                    for chain in all_chains(links, start, end):
                        self.gives(start, meeting_of, links, chain)

    def test_all_chains_of_small_logs(self):
        for links in [links for size in range(1, 6) for links in all_logs(size)]:
            chains = [chain for start in range(len(links)) for end in range(start + 1)
                      for chain in all_chains(links, start, end)]
            for one, other in itertools.product(chains, chains):
                self.gives(max(set(one) & set(other), default=None), meeting_of, links, one, other)

    def test_three_chains(self):
        chains = [chain for start in range(7) for end in range(start + 1) for chain in all_chains(EXAMPLE, start, end)]
        for three in itertools.product(chains[::3], chains[1::4], chains[::5]):
            common = set(three[0]) & set(three[1]) & set(three[2])
            self.gives(max(common, default=None), meeting_of, EXAMPLE, *three)

    def test_each_two_meet_but_not_all(self):
        links = [0, 0, 1, 1]
        self.gives(2, meeting_of, links, [3, 2], [2, 1])
        self.gives(3, meeting_of, links, [3, 2], [3, 1])
        self.gives(1, meeting_of, links, [2, 1], [3, 1])
        self.gives(None, meeting_of, links, [3, 2], [2, 1], [3, 1])

    def test_chains_that_touch_and_chains_apart(self):
        self.gives(3, meeting_of, EXAMPLE, [4, 3], [3, 2])
        self.gives(3, meeting_of, EXAMPLE, [3, 2], [4, 3])
        self.gives(None, meeting_of, EXAMPLE, [5, 4], [3, 2])
        self.gives(None, meeting_of, EXAMPLE, [4, 3], [6, 0])

    def test_equal_chains(self):
        chain = [5, 2, 0]
        self.gives(5, meeting_of, EXAMPLE, chain, chain)
        self.gives(5, meeting_of, EXAMPLE, *[chain] * 20)
        self.gives(0, meeting_of, EXAMPLE, *[[5, 2, 0], [6, 0]] * 10)
        self.gives(0, meeting_of, ONE, [0])
        self.gives(0, meeting_of, ONE, [0], [0], [0])

    def test_long_logs(self):
        down = list(range(149, -1, -1))
        for links in LONG:
            self.gives(149, meeting_of, links, down)
            self.gives(149, meeting_of, links, down, [149, links[149]], [149])
            self.gives(0, meeting_of, links, down, [0])
            self.gives(70, meeting_of, links, down, down[:80], down[79:])
            self.gives(None, meeting_of, links, down, down[:80], down[80:])
        self.gives(0, meeting_of, FLAT, [149, 0], [148, 0], [147, 146, 0])
        self.gives(2, meeting_of, PAIRS, list(range(148, 1, -2)), [3, 2, 1])

    def test_no_chain(self):
        for links in LONG + [ONE, EXAMPLE]:
            self.refuses(InvalidChain, meeting_of, links)
        for wrong in NOT_LOGS:
            self.refuses(InvalidLog, meeting_of, wrong)

    def test_wrong_chains(self):
        for wrong in NOT_CHAINS:
            self.refuses(InvalidChain, meeting_of, EXAMPLE, wrong)
            self.refuses(InvalidChain, meeting_of, EXAMPLE, wrong, [5, 2, 0])
            self.refuses(InvalidChain, meeting_of, EXAMPLE, [5, 2, 0], wrong)
            self.refuses(InvalidChain, meeting_of, EXAMPLE, [6, 0], [4, 3], wrong, [5, 2, 0])
        self.refuses(InvalidChain, meeting_of, EXAMPLE, [[5, 2, 0], [6, 0]])
        self.refuses(InvalidChain, meeting_of, EXAMPLE, *[[5, 2, 0]] * 19, (5, 2, 0))

    def test_wrong_logs_come_first(self):
        for wrong in NOT_LOGS:
            for chains in ([[0]], [[0], [0]], [None], [[True]], [[1, 0], "0"], [wrong]):
                self.refuses(InvalidLog, meeting_of, wrong, *chains)


class PointTenTest(ExactCase):
    """Point 10 itself, which sure_meeting and apart_chains rest on."""

    def test_chains_over_overlapping_parts_have_a_common_entry(self):
        for _, (start, end), (other_start, other_end), ones, others in all_pairs_of_spans():
            if end < other_end <= start < other_start:
                for one, other in itertools.product(ones, others):
                    self.assertTrue(set(one) & set(other))

    def test_each_two_meet_if_and_only_if_the_shortest_two_meet(self):
        for _, _, _, ones, others in all_pairs_of_spans():
            shortest = set(min(ones, key=len)) & set(min(others, key=len))
            each_two = all(set(one) & set(other) for one, other in itertools.product(ones, others))
            self.assertEqual(bool(shortest), each_two)

    def test_the_functions_say_so(self):
        for links in MIXED + [PAIRS]:
            for start, end, other_start, other_end in [(100, 20, 149, 60), (148, 0, 149, 148), (30, 0, 31, 29)]:
                chain = shortest_chain(links, start, end)
                other = list(range(other_start, other_end - 1, -1))
                self.assertIsNotNone(self.call(meeting_of, links, chain, other))
                self.gives(None, apart_chains, links, start, end, other_start, other_end)
                self.gives(None, apart_chains, links, other_start, other_end, start, end)


class SpansCase(ExactCase):
    """Checks that the two functions with two pairs of start and end share."""

    def refuses_wrong_pairs(self, function):
        """Fails unless the function refuses wrong logs, then wrong entries at each place."""
        self.refuses_wrong_spans(lambda links, start, end: function(links, start, end, 0, 0))
        self.refuses_wrong_spans(lambda links, start, end: function(links, 0, 0, start, end))
        self.refuses_wrong_spans(lambda links, start, end: function(links, start, end, start, end))
        self.refuses_wrong_spans(lambda links, start, end: function(links, start, end, None, -1))
        for wrong in NOT_LOGS:
            for args in [(0, 0, 0, 0), (None, -1, True, "0"), (0, 1, 1, 2), (GREAT, 0, 0, 0)]:
                self.refuses(InvalidLog, function, wrong, *args)
        for wrong in NOT_INTEGERS + [-1, 7, GREAT, -GREAT]:
            for at in range(4):
                args = [6, 0, 6, 0]
                args[at] = wrong
                self.refuses(InvalidEntry, function, EXAMPLE, *args)
        for args in [(3, 4, 6, 0), (6, 0, 3, 4), (0, 1, 0, 0), (0, 0, 0, 1), (149, 0, 150, 0), (148, 149, 0, 0)]:
            self.refuses(InvalidEntry, function, FLAT, *args)


class SureMeetingTest(SpansCase):
    def test_examples(self):
        self.gives(2, sure_meeting, EXAMPLE, 4, 0, 6, 1)

    def test_small_logs(self):
        for links, one, other, ones, others in all_pairs_of_spans():
            sure = [entry for entry in range(len(links)) if all(entry in chain for chain in ones + others)]
            self.gives(max(sure, default=None), sure_meeting, links, *one, *other)

    def test_equal_pairs(self):
        for links in LONG + [EXAMPLE, ONE]:
            newest = len(links) - 1
            for start, end in [(0, 0), (newest, 0), (newest, newest), (newest // 2, newest // 3)]:
                self.gives(start, sure_meeting, links, start, end, start, end)

    def test_pairs_that_only_touch_and_pairs_apart(self):
        for links in LONG:
            for at in (1, 50, 148):
                self.gives(at, sure_meeting, links, at, 0, 149, at)
                self.gives(at, sure_meeting, links, 149, at, at, 0)
                self.gives(None, sure_meeting, links, at - 1, 0, 149, at)
                self.gives(None, sure_meeting, links, 149, at, at - 1, 0)
        self.gives(None, sure_meeting, EXAMPLE, 4, 3, 6, 0)

    def test_long_logs(self):
        self.gives(0, sure_meeting, FLAT, 149, 0, 148, 0)
        self.gives(100, sure_meeting, STEPS, 149, 0, 100, 50)
        self.gives(148, sure_meeting, PAIRS, 149, 0, 148, 2)
        self.gives(146, sure_meeting, PAIRS, 147, 0, 148, 2)
        self.gives(2, sure_meeting, PAIRS, 148, 2, 3, 0)
        self.gives(None, sure_meeting, PAIRS, 148, 0, 3, 3)

    def test_wrong_arguments(self):
        self.refuses_wrong_pairs(sure_meeting)


class ApartChainsTest(SpansCase):
    def are_apart(self, links, one, other):
        """Fails unless the function gives two chains as they are wanted, and equal ones again."""
        found = self.call(apart_chains, links, *one, *other)
        self.assertIs(type(found), tuple)
        self.assertEqual(len(found), 2)
        for chain, (start, end) in zip(found, (one, other)):
            self.gives(True, is_chain, links, chain)
            self.same((chain[0], chain[-1]), (start, end))
        self.assertFalse(set(found[0]) & set(found[1]))
        self.gives((list(found[0]), list(found[1])), apart_chains, links, *one, *other)
        self.same(apart_chains(list(links), *one, *other), apart_chains(links, *one, *other))

    def test_examples(self):
        self.gives(([4, 3], [6, 0]), apart_chains, EXAMPLE, 4, 3, 6, 0)

    def test_small_logs(self):
        for links, one, other, ones, others in all_pairs_of_spans():
            if any(not set(chain) & set(beside) for chain, beside in itertools.product(ones, others)):
                self.are_apart(links, one, other)
            else:
                self.gives(None, apart_chains, links, *one, *other)

    def test_equal_pairs(self):
        for links in LONG + [EXAMPLE, ONE]:
            newest = len(links) - 1
            for start, end in [(0, 0), (newest, 0), (newest, newest), (newest // 2, newest // 3)]:
                self.gives(None, apart_chains, links, start, end, start, end)

    def test_pairs_that_only_touch_and_pairs_apart(self):
        for links in LONG:
            for at in (1, 50, 148):
                self.gives(None, apart_chains, links, at, 0, 149, at)
                self.gives(None, apart_chains, links, 149, at, at, 0)
                self.are_apart(links, (at - 1, 0), (149, at))
                self.are_apart(links, (149, at), (at - 1, 0))

    def test_a_pair_inside_of_another_one(self):
        self.are_apart(FLAT, (149, 0), (148, 1))
        self.are_apart(FLAT, (148, 1), (149, 0))
        self.are_apart(PAIRS, (148, 0), (3, 3))
        self.gives(None, apart_chains, PAIRS, 148, 0, 3, 2)
        self.gives(None, apart_chains, STEPS, 149, 0, 70, 70)

    def test_wrong_arguments(self):
        self.refuses_wrong_pairs(apart_chains)


if __name__ == "__main__":
    unittest.main()
