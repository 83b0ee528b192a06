"""Costs of logs for prices, and the logs with the least cost."""

import itertools
import random
import unittest

from backlinks.depths import cheapest_cost, cheapest_log, cost_of, depths_of, flattest_log, least_depth
from backlinks.errors import Different, InvalidLog, InvalidPrices
from backlinks.links import is_log
from tests.plain import EXAMPLE, FLAT, GREAT, LONG, NOT_LOGS, NOT_PRICES, ONE, STEPS
from tests.plain import ExactCase, all_logs, mixed_log

MOST = 10 ** 30
# Ordinary prices, equal ones, and such with only one or two that are not 0.
PRICES = [
    [2, 3, 1, 0], [0], [1], [MOST], [0, 0], [5, 7], [7, 5], [MOST, MOST], [1, 1, 1], [3, 1, 2], [MOST, 0, 1], [0] * 7,
    [1] * 7, [MOST] * 7, [1, 0, 0, 0, 0, 0, 0], [0, 0, 0, 1, 0, 0, 0], [0, 0, 0, 0, 0, 1, 1], [1, 1, 0, 0, 0, 0, 0],
    [0, 0, 0, 0, 0, 0, 9], [1, 2, 4, 8, 16, 32, 64], [64, 32, 16, 8, 4, 2, 1], [5, 0, 5, 0, 5, 0, 5],
    [9, 8, 7, 1, 1, 9], [1, 10, 100, 10, 1, 1000], [MOST, MOST - 1, 1, MOST, 0, 2],
]


def some_prices(size, most, seed):
    """Returns prices without a plan, the same ones for the same seed."""
    chance = random.Random(seed)
    return [chance.randint(0, most) for _ in range(size)]


def plain_cost(links, prices):
    """Returns the sum of price times depth over all entries."""
    depths = depths_of(links)
    return sum(prices[entry] * depths[entry] for entry in range(len(links)))


class CostOfTest(ExactCase):
    def test_examples(self):
        self.gives(8, cost_of, [0, 0, 1, 1], [2, 3, 1, 0])
        self.gives(9, cost_of, [0, 0, 1, 0], [2, 3, 1, 0])

    def test_small_logs(self):
        for prices in PRICES:
            for links in all_logs(len(prices)):
                self.gives(plain_cost(links, prices), cost_of, links, prices)

    def test_sixty_entries(self):
        for links in LONG:
            links = links[:60]
            for prices in (some_prices(60, MOST, 1), [0] * 60, [MOST] * 60, [1] * 60):
                self.gives(plain_cost(links, prices), cost_of, links, prices)
        self.gives(sum(range(60)), cost_of, STEPS[:60], [1] * 60)
        self.gives(sum(range(59)) + 1, cost_of, FLAT[:60], [1] * 60)
        self.gives(MOST * sum(range(60)), cost_of, STEPS[:60], [MOST] * 60)

    def test_the_price_of_the_newest_entry_does_not_matter(self):
        self.gives(0, cost_of, ONE, [MOST])
        self.gives(0, cost_of, EXAMPLE, [0] * 6 + [MOST])
        self.gives(3, cost_of, EXAMPLE, [0, 1, 0, 0, 0, 0, 5])

    def test_as_many_prices_as_entries(self):
        for links in (ONE, [0, 0], EXAMPLE, FLAT[:59], FLAT[:60]):
            for many in (len(links) - 1, len(links) + 1, 1, 7, 60):
                if many != len(links) and 1 <= many <= 60:
                    self.refuses(Different, cost_of, links, [1] * many)
        for links in (FLAT, STEPS, FLAT[:61]):
            self.refuses(Different, cost_of, links, [1] * 60)
            self.refuses(InvalidPrices, cost_of, links, [1] * len(links))

    def test_wrong_arguments(self):
        self.refuses_wrong_logs(cost_of, ([0],), ([],), (None,), ([True],), ([0] * 7,), ([0] * 61,))
        for wrong in NOT_PRICES:
            for links in (ONE, EXAMPLE, FLAT, FLAT[:60]):
                self.refuses(InvalidPrices, cost_of, links, wrong)
        for wrong in NOT_LOGS:
            self.refuses(InvalidLog, cost_of, wrong, wrong)


class CheapestTest(ExactCase):
    """The least cost and a log with it."""

    def is_cheapest(self, wanted, prices):
        """Fails unless both functions find this cost, and again the same log."""
        self.gives(wanted, cheapest_cost, prices)
        links = self.call(cheapest_log, prices)
        self.assertTrue(is_log(links))
        self.assertEqual(len(links), len(prices))
        self.same(plain_cost(links, prices), wanted)
        self.gives(list(links), cheapest_log, prices)
        self.same(cheapest_log(list(prices)), cheapest_log(prices))

    def test_examples(self):
        self.gives(8, cheapest_cost, [2, 3, 1, 0])
        self.is_cheapest(8, [2, 3, 1, 0])

    def test_all_logs_of_small_sizes(self):
        for prices in PRICES + [some_prices(size, 9, size) for size in range(1, 9)]:
            self.is_cheapest(min(plain_cost(links, prices) for links in all_logs(len(prices))), prices)

    def test_all_small_prices_of_four_entries(self):
        depths = [depths_of(links) for links in all_logs(5)]
        for prices in itertools.product(range(3), repeat=5):
            least = min(sum(price * depth for price, depth in zip(prices, row)) for row in depths)
            self.is_cheapest(least, list(prices))

    def test_no_other_log_of_sixty_entries_is_cheaper(self):
        for prices in (some_prices(60, MOST, 2), some_prices(60, 3, 3), [1] * 60, list(range(60)),
                       [0] * 30 + [MOST] * 30):
            least = cheapest_cost(prices)
            self.is_cheapest(least, prices)
            for links in [links[:60] for links in LONG] + [flattest_log(60)] + [mixed_log(60, k) for k in range(50)]:
                self.assertLessEqual(least, plain_cost(links, prices))

    def test_one_price_that_is_not_zero(self):
        for size in (2, 3, 59, 60):
            for at in range(size - 1):
                self.is_cheapest(MOST, [0] * at + [MOST] + [0] * (size - 1 - at))
            self.is_cheapest(0, [0] * (size - 1) + [MOST])
            self.is_cheapest(0, [0] * size)

    def test_equal_prices(self):
        for size in (1, 2, 3, 7, 8, 15, 16, 31, 32, 60):
            # As many entries as possible have each depth: one, two, four, and so on.
            depths = [(entry + 1).bit_length() - 1 for entry in range(size)]
            for price in (1, 10 ** 30):
                self.is_cheapest(price * sum(depths), [price] * size)
            self.assertEqual(max(depths), least_depth(size))

    def test_prices_stay_as_they_are(self):
        prices = some_prices(60, MOST, 5)
        kept = list(prices)
        first = cheapest_log(prices)
        self.same(prices, kept)
        prices[0] = 7
        again = cheapest_log(kept)
        self.same(again, first)
        self.assertIsNot(again, first)

    def test_wrong_arguments(self):
        for wrong in NOT_PRICES + [GREAT, [0, 0, 0, "2"]]:
            self.refuses(InvalidPrices, cheapest_cost, wrong)
            self.refuses(InvalidPrices, cheapest_log, wrong)

    def test_they_are_quick(self):
        for prices in (some_prices(60, MOST, 4), [0] * 60, [MOST] * 60):
            self.is_quick(0.05, cheapest_cost, prices)
            self.is_quick(0.05, cheapest_log, prices)
            self.is_quick(0.02, cost_of, STEPS[:60], prices)


if __name__ == "__main__":
    unittest.main()
