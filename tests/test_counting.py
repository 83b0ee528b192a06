"""The numbers of logs, and the logs with a number."""

import unittest

from backlinks.counting import count_logs, log_number, nth_log
from backlinks.errors import InvalidLog, InvalidNumber, InvalidSize
from backlinks.links import is_log
from tests.plain import EXAMPLE, FLAT, GREAT, LONG, NOT_INTEGERS, NOT_LOGS, ONE, STEPS
from tests.plain import ExactCase, all_logs, catalan, mixed_log


class CountLogsTest(ExactCase):
    def test_examples(self):
        self.gives(5, count_logs, 4)

    def test_small_sizes(self):
        for size in range(1, 9):
            self.gives(len(all_logs(size)), count_logs, size)

    def test_all_sizes(self):
        for size in range(1, 151):
            self.gives(catalan(size - 1), count_logs, size)
        self.gives(1, count_logs, 1)
        self.gives(1, count_logs, 2)

    def test_wrong_sizes(self):
        self.refuses_wrong_sizes(count_logs)


class NthLogTest(ExactCase):
    def test_examples(self):
        self.gives([0, 0, 1, 1], nth_log, 4, 3)

    def test_all_small_logs_in_their_order(self):
        for size in range(1, 8):
            logs = sorted(all_logs(size))
            for number, links in enumerate(logs):
                self.gives(links, nth_log, size, number)
            for number in (-1, len(logs), len(logs) + 1):
                self.refuses(InvalidNumber, nth_log, size, number)

    def test_first_and_last_number(self):
        for size in (1, 2, 3, 149, 150):
            many = catalan(size - 1)
            self.gives(FLAT[:size], nth_log, size, 0)
            self.gives(STEPS[:size], nth_log, size, many - 1)
            for number in (many, many + 1, 2 * many, -1, -many):
                self.refuses(InvalidNumber, nth_log, size, number)
        self.gives(FLAT[:149] + [148], nth_log, 150, 1)
        self.gives(STEPS[:149] + [147], nth_log, 150, catalan(149) - 2)

    def test_wrong_numbers(self):
        for wrong in NOT_INTEGERS + [-1, -GREAT, GREAT]:
            for size in (1, 2, 4, 150):
                self.refuses(InvalidNumber, nth_log, size, wrong)
        self.refuses(InvalidNumber, nth_log, 4, 5)

    def test_wrong_sizes_come_first(self):
        for number in (0, 1, -1, GREAT, None, True, "0"):
            self.refuses_wrong_sizes(nth_log, number)

    def test_each_result_is_a_list_of_its_own(self):
        one, other = nth_log(4, 3), nth_log(4, 3)
        one[2] = 0
        self.same(other, [0, 0, 1, 1])
        self.same(nth_log(4, 3), [0, 0, 1, 1])


class LogNumberTest(ExactCase):
    def test_examples(self):
        self.gives(4, log_number, [0, 0, 1, 2])

    def test_all_small_logs(self):
        for size in range(1, 8):
            for number, links in enumerate(sorted(all_logs(size))):
                self.gives(number, log_number, links)

    def test_first_and_last_number(self):
        for size in (1, 2, 3, 149, 150):
            self.gives(0, log_number, FLAT[:size])
            self.gives(catalan(size - 1) - 1, log_number, STEPS[:size])
        self.gives(1, log_number, FLAT[:149] + [148])
        self.gives(catalan(149) - 2, log_number, STEPS[:149] + [147])

    def test_long_logs_there_and_back(self):
        logs = sorted(LONG + [mixed_log(150, seed) for seed in range(10, 20)])
        numbers = [self.call(log_number, links) for links in logs]
        self.assertEqual(numbers, sorted(numbers))
        for links, number in zip(logs, numbers):
            self.gives(links, nth_log, 150, number)
        many = catalan(149)
        for number in (2, many // 7, many // 2, many - 3, 10 ** 80, 10 ** 80 + 1):
            links = self.call(nth_log, 150, number)
            self.gives(True, is_log, links)
            self.gives(number, log_number, links)

    def test_the_same_logs_with_one_more_entry(self):
        for links in (EXAMPLE, ONE, [0, 0], STEPS[:149], FLAT[:149]):
            longer = [links + [target] for target in range(len(links)) if is_log(links + [target])]
            first = log_number(longer[0])
            self.assertEqual([log_number(more) for more in longer], list(range(first, first + len(longer))))

    def test_wrong_logs(self):
        for wrong in NOT_LOGS:
            self.refuses(InvalidLog, log_number, wrong)


class CountingErrorsTest(ExactCase):
    def test_sizes_from_1_to_150(self):
        for size in (0, 151):
            self.refuses(InvalidSize, count_logs, size)
            self.refuses(InvalidSize, nth_log, size, 0)
            self.refuses(InvalidLog, log_number, [0] * size)


if __name__ == "__main__":
    unittest.main()
