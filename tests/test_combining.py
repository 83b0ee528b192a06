"""Logs above other ones, the least log above several ones, and the greatest log below them."""

import itertools
import unittest

from backlinks.combining import common_down, common_up, is_above
from backlinks.errors import Different, InvalidLog
from backlinks.links import is_log
from tests.plain import CROSSED, EXAMPLE, FLAT, LONG, MIXED, NOT_LOGS, ONE, STEPS
from tests.plain import ExactCase, all_crossings, all_logs, is_above_plainly, mixed_log


def least_above(logs, row):
    """Returns the only one of the logs that is above all of the row, and below all others that are."""
    found = [links for links in logs if all(is_above_plainly(links, other) for other in row)]
    [least] = [links for links in found if all(is_above_plainly(other, links) for other in found)]
    return least


def greatest_below(logs, row):
    """Returns the only one of the logs that is below all of the row, and above all others that are."""
    found = [links for links in logs if all(is_above_plainly(other, links) for other in row)]
    [greatest] = [links for links in found if all(is_above_plainly(links, other) for other in found)]
    return greatest


def lowered(logs):
    """Returns what point 16 says of the greatest log below: the least links, lowered as long as two entries cross."""
    links = [min(choices) for choices in zip(*logs)]
    while all_crossings(links):
        entry, other = all_crossings(links)[-1]
        links[other] = links[entry]
    return links


class IsAboveTest(ExactCase):
    def test_examples(self):
        self.gives(False, is_above, [0, 0, 0, 2], [0, 0, 1, 1])
        self.gives(True, is_above, [0, 0, 0, 2], [0, 0, 0, 2])

    def test_all_small_logs(self):
        for size in range(1, 7):
            for links, other in itertools.product(all_logs(size), repeat=2):
                self.gives(is_above_plainly(links, other), is_above, links, other)

    def test_each_log_is_above_itself_and_the_lowest_one(self):
        for links in LONG + [EXAMPLE, ONE]:
            size = len(links)
            self.gives(True, is_above, links, list(links))
            self.gives(True, is_above, links, FLAT[:size])
            self.gives(True, is_above, STEPS[:size], links)
            self.gives(links == FLAT[:size], is_above, FLAT[:size], links)
            self.gives(links == STEPS[:size], is_above, links, STEPS[:size])

    def test_one_link_decides(self):
        self.gives(True, is_above, FLAT[:149] + [148], FLAT)
        self.gives(False, is_above, FLAT, FLAT[:149] + [148])
        self.gives(False, is_above, FLAT[:149] + [148], STEPS[:100] + [0] * 50)

    def test_wrong_arguments(self):
        self.refuses_wrong_two(is_above)


class CombiningCase(ExactCase):
    """Checks that the functions of several logs share."""

    def is_best_of_small_logs(self, best, function):
        """Fails unless the function gives the best of all logs, for each two and for many three small logs."""
        for size in range(1, 6):
            logs = all_logs(size)
            for row in itertools.product(logs, repeat=2):
                self.gives(best(logs, row), function, *row)
        logs = all_logs(6)
        for row in itertools.product(logs[::5], logs[1::7], logs[2::6]):
            self.gives(best(logs, row), function, *row)

    def gives_back(self, function):
        """Fails unless the function gives one log, or twenty equal ones, back as a new list."""
        for links in LONG + [EXAMPLE, ONE] + all_logs(5):
            self.gives(links, function, links)
            self.gives(links, function, links, list(links))
            self.gives(links, function, *[list(links)] * 20)

    def refuses_wrong_rows(self, function):
        """Fails unless the function refuses no log, then wrong logs at each place, then logs of different sizes."""
        self.refuses(InvalidLog, function)
        for wrong in NOT_LOGS:
            self.refuses(InvalidLog, function, wrong)
            self.refuses(InvalidLog, function, EXAMPLE, EXAMPLE, wrong)
            self.refuses(InvalidLog, function, EXAMPLE, ONE, FLAT, wrong, STEPS)
            self.refuses(InvalidLog, function, *[EXAMPLE] * 19, wrong)
        self.refuses_wrong_two(function)
        self.refuses_wrong_two(function, EXAMPLE)
        self.refuses(Different, function, *[EXAMPLE] * 19, ONE)
        self.refuses(Different, function, ONE, *[EXAMPLE] * 19)
        self.refuses(Different, function, EXAMPLE, EXAMPLE, EXAMPLE[:6], EXAMPLE)
        self.refuses(InvalidLog, function, [EXAMPLE, EXAMPLE])
        self.refuses(InvalidLog, function, (EXAMPLE, EXAMPLE))

    def twenty_logs(self):
        """Returns twenty different logs of 150 entries."""
        return LONG + [mixed_log(150, seed) for seed in range(10, 24)]


class CommonUpTest(CombiningCase):
    def test_examples(self):
        self.gives([0, 0, 1, 2], common_up, [0, 0, 0, 2], [0, 0, 1, 1])

    def test_the_least_of_all_small_logs_above(self):
        self.is_best_of_small_logs(least_above, common_up)

    def test_one_log_and_equal_logs(self):
        self.gives_back(common_up)

    def test_twenty_logs(self):
        logs = self.twenty_logs()
        for row in (logs, logs[1:], logs[2:], logs[3:5], MIXED):
            result = self.call(common_up, *row)
            self.assertTrue(is_log(result))
            self.same(result, [max(choices) for choices in zip(*row)])
        self.gives(STEPS, common_up, *logs)

    def test_wrong_arguments(self):
        self.refuses_wrong_rows(common_up)


class CommonDownTest(CombiningCase):
    def test_examples(self):
        self.gives([0, 0, 0, 0], common_down, [0, 0, 0, 2], [0, 0, 1, 1])

    def test_the_greatest_of_all_small_logs_below(self):
        self.is_best_of_small_logs(greatest_below, common_down)

    def test_it_is_what_lowering_the_least_links_leads_to(self):
        for row in itertools.product(all_logs(5), repeat=2):
            self.gives(lowered(row), common_down, *row)

    def test_links_that_are_lowered_several_times(self):
        # The least links are [0, 0, 0, 1, 2], and entry 4 first gets the link 1, then 0.
        self.gives([0, 0, 0, 0, 0], common_down, [0, 0, 0, 2, 2], [0, 0, 1, 1, 3])
        self.gives([0] * 6, common_down, [0, 0, 0, 2, 3, 4], [0, 0, 1, 1, 3, 4], [0, 0, 1, 2, 2, 4], [0, 0, 1, 2, 3, 3])

    def test_one_log_and_equal_logs(self):
        self.gives_back(common_down)

    def test_twenty_logs(self):
        logs = self.twenty_logs()
        self.gives(FLAT, common_down, *logs)
        for row in (logs[1:], logs[2:4], logs[3:5], MIXED, logs[4:8], logs[1:3]):
            result = self.call(common_down, *row)
            self.assertTrue(is_log(result))
            self.assertTrue(all(is_above_plainly(links, result) for links in row))
            self.gives(result, common_down, *row[::-1])

    def test_some_longer_logs(self):
        for seed in range(60):
            row = [mixed_log(20, seed), mixed_log(20, seed + 100), mixed_log(20, seed + 200)]
            self.gives(lowered(row), common_down, *row)
            self.gives(lowered(row[:2]), common_down, *row[:2])

    def test_wrong_arguments(self):
        self.refuses_wrong_rows(common_down)


class QuickTest(CombiningCase):
    def test_they_are_quick(self):
        logs = self.twenty_logs()
        self.is_quick(0.05, common_up, *logs)
        self.is_quick(0.05, common_down, *logs)
        self.is_quick(0.02, is_above, STEPS, FLAT)

    def test_the_checks_of_crossings_come_before_those_of_sizes(self):
        for crossed in CROSSED:
            for function in (common_up, common_down, is_above):
                self.refuses(InvalidLog, function, ONE, crossed)
                self.refuses(InvalidLog, function, crossed, ONE)


if __name__ == "__main__":
    unittest.main()
