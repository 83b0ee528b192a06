"""Completions of larger sizes, compared with a plain count that splits the log at each last link."""

import random
import unittest

from backlinks.counting import log_number, nth_log
from backlinks.known import completion_number, count_completions, nth_completion
from backlinks.links import is_log
from tests.plain import FLAT, PAIRS, STEPS
from tests.plain import ExactCase, all_logs, catalan, has_links, known_of, mixed_log


def plain_count(size, known):
    """Returns the number of completions: the last link of a row of entries leaves two rows, each with its own ways."""
    counts = [[0] * size for _ in range(size)]
    for first in range(size - 1, -1, -1):
        counts[first][first] = 1
        for last in range(first + 1, size):
            targets = [known[last]] if last in known else range(first, last)
            counts[first][last] = sum(counts[first][target] * counts[target][last - 1]
                                      for target in targets if target >= first)
    return counts[0][size - 1]


def spread_known(size, seed):
    """Returns known links of a size without a plan, few or many, in any order."""
    chance = random.Random(seed)
    links = mixed_log(size, seed) if chance.random() < 0.5 else nth_log(size, chance.randrange(catalan(size - 1)))
    entries = [entry for entry in range(1, size) if chance.random() < chance.choice([0.1, 0.3, 0.6, 0.9])]
    chance.shuffle(entries)
    return known_of(links, entries)


class LargerSizesTest(ExactCase):
    def test_counts(self):
        for seed in range(150):
            size = 5 + seed % 25
            known = spread_known(size, seed)
            self.gives(plain_count(size, known), count_completions, size, known)

    def test_counts_of_great_sizes(self):
        for size, seed in [(60, 1), (60, 2), (90, 3), (149, 4), (150, 5)]:
            known = spread_known(size, seed)
            self.gives(plain_count(size, known), count_completions, size, known)

    def test_all_completions_in_their_order(self):
        logs = sorted(all_logs(8))
        for seed in range(40):
            known = spread_known(8, seed)
            wanted = [links for links in logs if has_links(links, known)]
            self.gives(len(wanted), count_completions, 8, known)
            for number, links in list(enumerate(wanted))[::5] + [(len(wanted) - 1, wanted[-1])]:
                self.gives(links, nth_completion, 8, known, number)
                self.gives(number, completion_number, links, known)

    def test_there_and_back(self):
        chance = random.Random(7)
        for seed in range(60):
            size = chance.choice([12, 20, 40, 149, 150])
            known = spread_known(size, seed)
            many = count_completions(size, known)
            numbers = sorted({0, many - 1, many // 2} | {chance.randrange(many) for _ in range(4)})
            found = [self.call(nth_completion, size, known, number) for number in numbers]
            self.assertEqual(found, sorted(found))
            for number, links in zip(numbers, found):
                self.assertTrue(is_log(links))
                self.assertTrue(has_links(links, known))
                self.gives(number, completion_number, links, known)

    def test_they_are_numbered_as_they_follow_each_other_among_all_logs(self):
        for seed in range(20):
            known = spread_known(9, seed)
            many = count_completions(9, known)
            numbers = [log_number(nth_completion(9, known, number)) for number in range(many)]
            self.assertEqual(numbers, [number for number in range(catalan(8)) if has_links(nth_log(9, number), known)])

    def test_parts_inside_of_each_other(self):
        for size in (6, 15, 30):
            for known in ({size - 1 - at: at for at in range(size // 2)}, {entry: 0 for entry in range(1, size)},
                          {entry: 0 for entry in range(size - 1, size // 2, -1)}, {size - 1: 0, size - 2: 0, 2: 1},
                          known_of(PAIRS, range(2, size, 2)), known_of(STEPS, range(1, size, 2)),
                          known_of(FLAT, range(3, size, 4)), {size - 1: 1}, {size - 1: 1, size - 2: 1, 3: 2}):
                many = plain_count(size, known)
                self.gives(many, count_completions, size, known)
                for number in {0, many // 2, many - 1}:
                    links = self.call(nth_completion, size, known, number)
                    self.assertTrue(is_log(links) and has_links(links, known))
                    self.gives(number, completion_number, links, known)


if __name__ == "__main__":
    unittest.main()
