"""Ruler logs: links, shortest chains, their lengths, and meetings."""

import itertools
import random
import unittest

from backlinks.chains import shortest_chain
from backlinks.errors import InvalidBase, InvalidEntry
from backlinks.links import is_log
from backlinks.meetings import sure_meeting
from backlinks.ruler import ruler_length, ruler_link, ruler_meeting, ruler_walk
from tests.plain import GREAT, NESTED, NOT_INTEGERS, ExactCase

MOST = 10 ** 30
BASES = (2, 3, 5, 7, 10, 16, 35, 36)
NOT_BASES = NOT_INTEGERS + [NESTED, 0, 1, -1, -2, 37, 38, 100, GREAT, -GREAT]


def plain_link(base, entry):
    """Returns the entry minus the greatest power of the base that divides it."""
    return entry - max(itertools.takewhile(lambda power: entry % power == 0, (base ** k for k in range(110))))


def plain_walk(base, start, end):
    """Returns the shortest chain: by the link where it is not less than the end, and otherwise by the step."""
    chain = [start]
    while chain[-1] > end:
        link = plain_link(base, chain[-1])
        chain.append(link if link >= end else chain[-1] - 1)
    return chain


def first_entries(base, size):
    """Returns the first entries of a ruler log as a list of links."""
    return [0] + [plain_link(base, entry) for entry in range(1, size)]


def great_entries(base):
    """Returns powers of the base, multiples of these, and the neighbours of both, up to the greatest entry."""
    powers = [base ** k for k in range(110) if base ** k <= MOST]
    many = (1, 2, base - 1, base + 1, base * base - 1)
    found = [power * by for power in powers[::7] + powers[-2:] for by in many]
    near = [entry + by for entry in found + [MOST] for by in (-1, 0, 1)]
    return sorted({entry for entry in near if 0 <= entry <= MOST})


def some_spans(base, seed):
    """Yields starts and ends without a plan, near each other and far from each other."""
    chance = random.Random(seed)
    starts = great_entries(base) + [chance.randint(0, MOST) for _ in range(10)]
    for _ in range(25):
        start = chance.choice(starts)
        apart = chance.choice([0, 1, 5, base, base ** 3, 10 ** 10, 10 ** 20, MOST])
        yield start, max(0, start - chance.randint(0, apart))


class RulerCase(ExactCase):
    """Checks that the functions with start and end share."""

    def refuses_wrong_ruler_spans(self, function):
        """Fails unless the function refuses wrong bases, then wrong starts, then wrong ends."""
        for wrong in NOT_BASES:
            for start, end in [(0, 0), (13, 3), (3, 13), (None, None), (-1, "0"), (wrong, wrong), (MOST + 1, 0)]:
                self.refuses(InvalidBase, function, wrong, start, end)
        for base in (2, 10, 36):
            for start in NOT_INTEGERS + [-1, -MOST, MOST + 1, GREAT, -GREAT]:
                for end in (0, start, None, -1):
                    self.refuses(InvalidEntry, function, base, start, end)
            for start in (0, 1, 13, MOST):
                for end in NOT_INTEGERS + [-1, start + 1, MOST + 1, GREAT, -GREAT]:
                    self.refuses(InvalidEntry, function, base, start, end)


class RulerLinkTest(RulerCase):
    def test_examples(self):
        self.gives(8, ruler_link, 2, 12)

    def test_first_entries(self):
        for base in BASES:
            for entry in range(1, 2000):
                self.gives(plain_link(base, entry), ruler_link, base, entry)

    def test_powers_multiples_and_neighbours(self):
        for base in BASES:
            for entry in great_entries(base):
                if entry > 0:
                    self.gives(plain_link(base, entry), ruler_link, base, entry)

    def test_greatest_entries(self):
        self.gives(0, ruler_link, 10, MOST)
        self.gives(MOST - 1 - 1, ruler_link, 10, MOST - 1)
        self.gives(MOST - 2 ** 30, ruler_link, 2, MOST)
        self.gives(0, ruler_link, 36, 36 ** 19)
        self.gives(0, ruler_link, 2, 2 ** 99)
        self.gives(2 ** 99, ruler_link, 2, 2 ** 99 + 1)
        self.gives(0, ruler_link, 2, 1)

    def test_no_two_entries_cross(self):
        for base in BASES:
            self.assertTrue(is_log(first_entries(base, 150)))

    def test_wrong_arguments(self):
        for wrong in NOT_BASES:
            for entry in (1, 12, 0, None, wrong, MOST + 1):
                self.refuses(InvalidBase, ruler_link, wrong, entry)
        for base in (2, 10, 36):
            for wrong in NOT_INTEGERS + [0, -1, MOST + 1, GREAT, -GREAT]:
                self.refuses(InvalidEntry, ruler_link, base, wrong)


def walked(base, start, end):
    """Returns all that ruler_walk yields."""
    return list(ruler_walk(base, start, end))


class RulerWalkTest(RulerCase):
    def test_examples(self):
        self.gives([13, 12, 8, 7, 6, 4, 3], walked, 2, 13, 3)

    def test_first_entries(self):
        for base in (2, 3, 10, 36):
            for start in range(0, 90):
                for end in range(start + 1):
                    self.gives(plain_walk(base, start, end), walked, base, start, end)

    def test_it_is_the_shortest_chain_of_the_log(self):
        for base in BASES:
            links = first_entries(base, 150)
            for start, end in itertools.product(range(0, 150, 7), range(0, 150, 5)):
                if end <= start:
                    self.gives(shortest_chain(links, start, end), walked, base, start, end)

    def test_great_entries(self):
        for base in (2, 10, 36):
            for start, end in itertools.islice(some_spans(base, 1), 8):
                self.gives(plain_walk(base, start, end), walked, base, start, end)
        self.gives([MOST, 0], walked, 10, MOST, 0)
        self.gives([MOST, MOST - 1], walked, 10, MOST, MOST - 1)
        self.gives([MOST, MOST - 1] + [MOST - at for at in range(2, 11)], walked, 10, MOST, MOST - 10)

    def test_a_start_that_is_the_end(self):
        for base in BASES:
            for entry in (0, 1, base, 12, MOST):
                self.gives([entry], walked, base, entry, entry)

    def test_a_walk_that_is_left_early(self):
        walk = ruler_walk(2, MOST, 1)
        self.same([next(walk), next(walk)], [MOST, MOST - 2 ** 30])
        walk.close()
        self.gives([MOST, MOST - 1], walked, 2, MOST, MOST - 1)

    def test_two_walks_at_the_same_time(self):
        one, other = ruler_walk(2, 13, 3), ruler_walk(2, 13, 3)
        self.same([pair for pair in zip(one, other)], [(entry, entry) for entry in plain_walk(2, 13, 3)])

    def test_wrong_arguments(self):
        self.refuses_wrong_ruler_spans(walked)


class RulerLengthTest(RulerCase):
    def test_examples(self):
        self.gives(1, ruler_length, 10, MOST, 0)

    def test_first_entries(self):
        for base in (2, 3, 5, 10, 36):
            for start in range(0, 90):
                for end in range(start + 1):
                    self.gives(len(plain_walk(base, start, end)) - 1, ruler_length, base, start, end)

    def test_great_entries(self):
        for base in BASES:
            for start, end in some_spans(base, 2):
                self.gives(len(walked(base, start, end)) - 1, ruler_length, base, start, end)

    def test_powers_multiples_and_neighbours(self):
        for base in (2, 10, 36):
            for start in great_entries(base)[::3]:
                for end in {0, 1, base, start // 2, start // base, start - base, start - 1}:
                    if 0 <= end <= start:
                        self.gives(len(walked(base, start, end)) - 1, ruler_length, base, start, end)

    def test_a_start_that_is_the_end(self):
        for base in BASES:
            for entry in (0, 1, base, 12, MOST):
                self.gives(0, ruler_length, base, entry, entry)

    def test_wrong_arguments(self):
        self.refuses_wrong_ruler_spans(ruler_length)


class RulerMeetingTest(RulerCase):
    def meets(self, base, one, other):
        """Fails unless the function gives the greatest common entry of the two shortest chains, in both orders."""
        wanted = max(set(walked(base, *one)) & set(walked(base, *other)), default=None)
        self.gives(wanted, ruler_meeting, base, *one, *other)
        self.gives(wanted, ruler_meeting, base, *other, *one)

    def test_examples(self):
        self.gives(8, ruler_meeting, 2, 13, 3, 10, 2)

    def test_first_entries(self):
        for base in (2, 3, 10):
            spans = [(start, end) for start in range(0, 28) for end in range(start + 1)]
            for one, other in zip(spans * 3, spans[5:] + spans[77:] + spans[:40] + spans[201:]):
                self.meets(base, one, other)

    def test_each_two_of_the_first_entries_as_a_log(self):
        for base in (2, 3):
            links = first_entries(base, 14)
            spans = [(start, end) for start in range(14) for end in range(start + 1)]
            for one, other in itertools.product(spans, spans):
                self.gives(sure_meeting(links, *one, *other), ruler_meeting, base, *one, *other)

    def test_some_of_150_entries_as_a_log(self):
        chance = random.Random(3)
        for base in BASES:
            links = first_entries(base, 150)
            for _ in range(60):
                start, other_start = chance.randrange(150), chance.randrange(150)
                spans = (start, chance.randint(0, start), other_start, chance.randint(0, other_start))
                self.gives(sure_meeting(links, *spans), ruler_meeting, base, *spans)

    def test_great_entries(self):
        for base in (2, 10, 36):
            for one, other in zip(some_spans(base, 4), some_spans(base, 5)):
                self.meets(base, one, other)
            for start, end in some_spans(base, 6):
                for other_start in (start + 1, start + base, start - 1, end, end + 1):
                    for other_end in (start, start - 1, end, end - 1, 0):
                        if 0 <= other_end <= other_start <= MOST:
                            self.gives(ruler_meeting(base, other_start, other_end, start, end),
                                       ruler_meeting, base, start, end, other_start, other_end)

    def test_great_overlapping_parts(self):
        for base in (2, 10, 36):
            for start, end in [(MOST - 5, MOST // 3), (MOST // 7, 5), (base ** 15 + 3, base ** 14 - 1)]:
                for other_start, other_end in [(MOST, start - 1), (start + 4, end + 1), (start + 1, start)]:
                    self.meets(base, (start, end), (other_start, other_end))
                    if end < other_end <= start < other_start:
                        self.assertIsNotNone(ruler_meeting(base, start, end, other_start, other_end))

    def test_parts_that_touch_and_parts_apart(self):
        for base in BASES:
            for at in (1, 13, base ** 5, MOST - 1):
                self.gives(at, ruler_meeting, base, at, 0, MOST, at)
                self.gives(None, ruler_meeting, base, at - 1, 0, MOST, at)
                self.gives(None, ruler_meeting, base, MOST, at, at - 1, 0)
                self.gives(at, ruler_meeting, base, at, at, at, at)
        self.gives(None, ruler_meeting, 10, MOST, 0, MOST - 1, 1)
        self.gives(0, ruler_meeting, 10, MOST, 0, MOST - 1, 0)

    def test_wrong_arguments(self):
        self.refuses_wrong_ruler_spans(lambda base, start, end: ruler_meeting(base, start, end, 0, 0))
        self.refuses_wrong_ruler_spans(lambda base, start, end: ruler_meeting(base, 0, 0, start, end))
        self.refuses_wrong_ruler_spans(lambda base, start, end: ruler_meeting(base, start, end, None, -1))
        for wrong in NOT_INTEGERS + [-1, MOST + 1, GREAT, -GREAT]:
            for at in range(4):
                args = [13, 3, 10, 2]
                args[at] = wrong
                self.refuses(InvalidEntry, ruler_meeting, 2, *args)
        for args in [(3, 4, 6, 0), (6, 0, 3, 4), (0, 1, 0, 0), (0, 0, 0, 1)]:
            self.refuses(InvalidEntry, ruler_meeting, 2, *args)


class QuickTest(RulerCase):
    def test_they_are_quick(self):
        for base in BASES:
            top = max(base ** k for k in range(110) if base ** k <= MOST)
            for start, end in [(MOST, 0), (MOST, 1), (top, 1), (top - 1, top // 2)]:
                self.is_quick(0.1, walked, base, start, end)
                self.is_quick(0.005, ruler_length, base, start, end)
                self.is_quick(0.005, ruler_meeting, base, start, end, start - 1, end // 2)
            self.is_quick(0.005, ruler_link, base, top)


if __name__ == "__main__":
    unittest.main()
