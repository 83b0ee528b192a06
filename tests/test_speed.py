"""How long single calls with great sizes may take: five times what they are meant to take, for slow machines."""

import unittest

from backlinks.counting import count_logs, log_number, nth_log
from backlinks.known import completion_number, count_completions, nth_completion, skipping_log, sure_entries
from backlinks.links import is_log
from backlinks.meetings import apart_chains, meeting_of, sure_meeting
from tests.plain import FLAT, LONG, PAIRS, STEPS, ExactCase, known_of

MILLISECOND = 0.001
# Known links of size 150, few of them and many, side by side, inside of each other, and without an order.
KNOWN = [
    {}, {149: 0, 148: 1}, {1: 0}, {149: 0}, {149: 148}, {75: 0}, {149: 75, 75: 0},
    {entry: entry - 1 for entry in range(1, 150, 3)}, {entry: entry - 1 for entry in range(2, 150, 3)},
    {entry: entry - 3 for entry in range(3, 150, 3)}, {entry: 0 for entry in range(2, 150, 2)},
    {entry: 149 - entry for entry in range(75, 150)}, {entry: 149 - entry for entry in range(149, 74, -1)},
    {entry: entry - 2 for entry in range(2, 150, 2)}, {entry: 0 for entry in range(149, 75, -1)},
] + [known_of(links, entries) for links in LONG for entries in (range(1, 150), range(1, 150, 2), range(5, 150, 20))]
# The same for size 40.
SMALL_KNOWN = [{entry: known[entry] for entry in known if entry < 40} for known in KNOWN]


def completions_of(size, known):
    """Returns some completions: the first one, the last one, and two between."""
    many = count_completions(size, known)
    return [(number, nth_completion(size, known, number)) for number in sorted({0, many // 2, many // 3, many - 1})]


class CompletionSpeedTest(ExactCase):
    def test_count_completions(self):
        for known in KNOWN:
            self.is_quick(30 * MILLISECOND, count_completions, 150, known)
        for known in SMALL_KNOWN:
            self.is_quick(2.5 * MILLISECOND, count_completions, 40, known)

    def test_nth_completion_and_completion_number(self):
        self.is_quick(60 * MILLISECOND, nth_completion, 150, {}, 10 ** 80)
        self.is_quick(60 * MILLISECOND, completion_number, [0] * 150, {})
        self.is_quick(60 * MILLISECOND, completion_number, [0] + list(range(149)), {})
        for known in KNOWN:
            for number, links in completions_of(150, known):
                self.is_quick(60 * MILLISECOND, nth_completion, 150, known, number)
                self.is_quick(60 * MILLISECOND, completion_number, links, known)

    def test_size_40(self):
        for known in SMALL_KNOWN:
            for number, links in completions_of(40, known):
                self.is_quick(5 * MILLISECOND, nth_completion, 40, known, number)
                self.is_quick(5 * MILLISECOND, completion_number, links, known)


class CountingSpeedTest(ExactCase):
    def test_nth_log(self):
        many = count_logs(150)
        for number in (many - 1, 10 ** 80, 0, 1, many // 2, many // 3, many // 7, many - 2, 10 ** 40, 10 ** 85):
            self.is_quick(3 * MILLISECOND, nth_log, 150, number)

    def test_log_number(self):
        for links in LONG + [FLAT[:149] + [148], STEPS[:149] + [0], STEPS[:75] + [0] * 75, PAIRS[:149]]:
            self.is_quick(1.5 * MILLISECOND, log_number, links)

    def test_count_logs(self):
        self.is_quick(0.1 * MILLISECOND, count_logs, 150)

class SureSpeedTest(ExactCase):
    def test_sure_entries_and_skipping_log(self):
        for known in KNOWN:
            for start, end in [(149, 0), (149, 75), (140, 9)]:
                self.is_quick(5 * MILLISECOND, sure_entries, 150, known, start, end)
                self.is_quick(5 * MILLISECOND, skipping_log, 150, known, start, end, 76)


class MeetingSpeedTest(ExactCase):
    """Five times a third of what these calls took when each chain and each span had the log checked again."""

    def test_meeting_of(self):
        self.is_quick(0.2 * MILLISECOND, meeting_of, STEPS, [149, 148, 147], [148, 147])
        down = list(range(149, -1, -1))
        for links in LONG:
            self.is_quick(1.8 * MILLISECOND, meeting_of, links, *[down] * 5)
            self.is_quick(1.8 * MILLISECOND, meeting_of, links, *[down[at:150 - at] for at in (0, 20, 40, 60, 74)])

    def test_sure_meeting(self):
        for links in LONG:
            for spans in [(149, 0, 148, 1), (148, 1, 149, 0), (149, 0, 149, 0), (149, 100, 99, 0), (149, 148, 1, 0)]:
                self.is_quick(0.5 * MILLISECOND, sure_meeting, links, *spans)

    def test_apart_chains(self):
        self.is_quick(0.16 * MILLISECOND, apart_chains, FLAT, 149, 0, 149, 0)
        for links in LONG:
            for spans in [(149, 0, 148, 1), (149, 75, 74, 0), (74, 0, 149, 75)]:
                self.is_quick(0.5 * MILLISECOND, apart_chains, links, *spans)

    def test_is_log(self):
        for links in LONG:
            self.is_quick(0.08 * MILLISECOND, is_log, links)


if __name__ == "__main__":
    unittest.main()
