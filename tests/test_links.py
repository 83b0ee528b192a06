"""Logs, crossing entries and allowed targets."""

import unittest

from backlinks.errors import InvalidLog
from backlinks.links import allowed_targets, crossing_in, is_log
from tests.plain import CROSSED, EXAMPLE, FLAT, LONG, NOT_FORMS, NOT_LOGS, ONE, PAIRS, STEPS
from tests.plain import ExactCase, all_crossings, all_forms, all_logs


class IsLogTest(ExactCase):
    def test_examples(self):
        self.gives(True, is_log, [0, 0, 0, 2])
        self.gives(False, is_log, [0, 0, 0, 1])
        self.gives(False, is_log, [])
        self.gives(False, is_log, [0, 1])
        self.gives(True, is_log, EXAMPLE)

    def test_all_small_lists(self):
        for size in range(1, 8):
            for links in all_forms(size):
                self.gives(not all_crossings(links), is_log, links)

    def test_the_numbers_of_logs_are_catalan_numbers(self):
        for size, many in [(1, 1), (2, 1), (3, 2), (4, 5), (5, 14), (6, 42), (7, 132), (8, 429)]:
            self.assertEqual(sum(is_log(links) for links in all_forms(size)), many)

    def test_sizes_from_1_to_150(self):
        self.gives(True, is_log, ONE)
        for links in LONG:
            self.assertEqual(len(links), 150)
            self.gives(True, is_log, links)
            for size in (1, 2, 75, 149):
                self.gives(True, is_log, links[:size])
        for size in (151, 152, 300, 400):
            self.gives(False, is_log, [0] * size)
            self.gives(False, is_log, [0] + list(range(size - 1)))

    def test_wrong_values(self):
        for wrong in NOT_LOGS:
            self.gives(False, is_log, wrong)

    def test_one_wrong_item_in_a_long_log(self):
        for links in LONG:
            for at in (0, 1, 2, 77, 149):
                for item in (None, True, False, "0", b"0", (0,), [0], {}, -1, max(at, 1), 150, 10 ** 99, -10 ** 99):
                    self.gives(False, is_log, links[:at] + [item] + links[at + 1:])

    def test_one_crossing_in_a_long_log(self):
        self.gives(False, is_log, FLAT[:149] + [147])
        self.gives(True, is_log, FLAT[:149] + [148])
        self.gives(False, is_log, FLAT[:3] + [1] + FLAT[:146])
        self.gives(False, is_log, PAIRS[:149] + [147])


class CrossingInTest(ExactCase):
    def test_examples(self):
        self.gives((2, 3), crossing_in, [0, 0, 0, 1])
        self.gives(None, crossing_in, [0, 0, 0, 2])

    def test_all_small_lists(self):
        for size in range(1, 8):
            for links in all_forms(size):
                self.gives(min(all_crossings(links), default=None), crossing_in, links)

    def test_the_least_of_several_crossings(self):
        # The pair with the least first entry, though its second entry is not the first one that crosses.
        self.gives((2, 6), crossing_in, [0, 0, 0, 2, 2, 3, 1])
        self.gives((2, 5), crossing_in, [0, 0, 0, 0, 2, 1, 1])
        for links in CROSSED:
            self.gives(all_crossings(links)[0], crossing_in, links)

    def test_sizes_1_and_150(self):
        self.gives(None, crossing_in, ONE)
        for links in LONG:
            self.gives(None, crossing_in, links)
        self.gives((148, 149), crossing_in, FLAT[:149] + [147])
        self.gives((2, 149), crossing_in, FLAT[:149] + [1])

    def test_wrong_values(self):
        for wrong in NOT_FORMS:
            self.refuses(InvalidLog, crossing_in, wrong)

    def test_a_crossing_does_not_hide_a_wrong_form(self):
        for wrong in [[0, 0, 0, 1, 4], [0, 0, 0, 1, True], [0, 0, 0, 1, -1], (0, 0, 0, 1), [0, 0, 0, 1] + [0] * 147]:
            self.refuses(InvalidLog, crossing_in, wrong)
        self.gives((2, 3), crossing_in, [0, 0, 0, 1] + [0] * 146)


class AllowedTargetsTest(ExactCase):
    def test_examples(self):
        self.gives([0, 6], allowed_targets, [0, 0, 0, 2, 3, 2, 0])
        self.gives([0, 2, 5], allowed_targets, [0, 0, 0, 2, 3, 2])

    def test_all_small_logs(self):
        for size in range(1, 8):
            for links in all_logs(size):
                wanted = [target for target in range(size) if not all_crossings(links + [target])]
                self.gives(wanted, allowed_targets, links)

    def test_sizes_1_and_150(self):
        self.gives([0], allowed_targets, ONE)
        self.gives([0, 149], allowed_targets, FLAT)
        self.gives(list(range(150)), allowed_targets, STEPS)
        self.gives(list(range(0, 149, 2)) + [149], allowed_targets, PAIRS)
        for links in LONG:
            wanted = [target for target in range(150) if not all_crossings(links + [target])]
            self.gives(wanted, allowed_targets, links)

    def test_wrong_values(self):
        for wrong in NOT_LOGS:
            self.refuses(InvalidLog, allowed_targets, wrong)

    def test_each_result_is_a_list_of_its_own(self):
        one, other = allowed_targets(EXAMPLE), allowed_targets(EXAMPLE)
        self.assertIsNot(one, other)
        one.append(7)
        self.same(other, [0, 6])


if __name__ == "__main__":
    unittest.main()
