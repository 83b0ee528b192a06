"""Completions of known links: how many there are, and their numbers."""

import unittest

from backlinks.counting import count_logs, log_number, nth_log
from backlinks.errors import Different, InvalidKnown, InvalidLog, InvalidNumber, InvalidSize
from backlinks.known import completion_number, count_completions, nth_completion
from backlinks.links import is_log
from tests.plain import CROSSED, EXAMPLE, FLAT, GREAT, LONG, MIXED, NOT_INTEGERS, NOT_KNOWN, NOT_LOGS, ONE, PAIRS, STEPS
from tests.plain import ExactCase, all_crossings, all_known, all_logs, catalan, has_links, known_crossings, known_of

# With these each second entry has two targets, so the completions count like numbers of two digits.
EVEN_TO_0 = {entry: 0 for entry in range(2, 150, 2)}


def small_known():
    """Yields sizes with known links that do not cross, and all their completions in ascending order."""
    for size in range(1, 7):
        logs = sorted(all_logs(size))
        for known in all_known(size):
            if not known_crossings(known):
                yield size, known, [links for links in logs if has_links(links, known)]


def targets_beside(known, entry):
    """Returns the targets of an unknown entry with which its link crosses none of the known ones."""
    return [target for target in range(entry) if not any(
        known[other] < target < other < entry or target < known[other] < entry < other for other in known)]


class CompletionCase(ExactCase):
    """Checks that several functions of known links share."""

    def refuses_wrong_beginnings(self, function, *rests):
        """Fails unless the function refuses wrong sizes, then wrong known links, then links that cross."""
        for rest in rests:
            for known in ({}, None, {3: 1, 2: 0}, {True: 0}):
                self.refuses_wrong_sizes(function, known, *rest)
            self.refuses_wrong_known(function, *rest)
            self.refuses_crossings(function, *rest)


class PointTwelveTest(ExactCase):
    """Point 12's "if and only if", and what the functions make of it."""

    def test_there_is_a_completion_if_and_only_if_no_two_known_links_cross(self):
        for size in range(1, 7):
            logs = all_logs(size)
            for known in all_known(size):
                crossings = known_crossings(known)
                self.assertEqual(any(has_links(links, known) for links in logs), not crossings)
                if crossings:
                    self.crosses(crossings[0], count_completions, size, known)
                    self.crosses(crossings[0], nth_completion, size, known, 0)
                    self.crosses(crossings[0], completion_number, logs[-1], known)


class CountCompletionsTest(CompletionCase):
    def test_examples(self):
        self.gives(2, count_completions, 4, {2: 0})
        self.gives(1, count_completions, 4, {3: 1})

    def test_all_of_small_sizes(self):
        for size, known, logs in small_known():
            self.gives(len(logs), count_completions, size, known)

    def test_larger_logs_with_few_known_links(self):
        logs = all_logs(8)
        for known in ({7: 3}, {4: 1}, {7: 2, 5: 3}, {3: 0, 6: 3}, {2: 0, 4: 0}, {6: 1}, {5: 4}, {1: 0}, {7: 0}, {7: 6}):
            self.gives(sum(has_links(links, known) for links in logs), count_completions, 8, known)

    def test_no_known_link(self):
        for size in list(range(1, 40)) + [80, 148, 149, 150]:
            self.gives(catalan(size - 1), count_completions, size, {})

    def test_one_known_link_of_many_entries(self):
        for size in (2, 3, 149, 150):
            for link in range(0, size - 1, 30):
                wanted = catalan(link) * catalan(size - 2 - link)
                self.gives(wanted, count_completions, size, {size - 1: link})
            self.gives(catalan(size - 1), count_completions, size, {1: 0})
        self.gives(catalan(148), count_completions, 150, {2: 0})
        self.gives(catalan(149) - catalan(148), count_completions, 150, {2: 1})
        for entry in (3, 9):
            many = [self.call(count_completions, 150, {entry: link}) for link in range(entry)]
            self.assertEqual(sum(many), catalan(149))

    def test_many_known_links(self):
        self.gives(2 ** 73 * 2, count_completions, 150, EVEN_TO_0)
        self.gives(75, count_completions, 150, known_of(PAIRS, range(2, 150, 2)))
        for known in ({40: 7, 90: 40}, {90: 40, 40: 7}, {149: 20, 148: 30}):
            for entry in (5, 12):
                many = [count_completions(150, {**known, entry: link}) for link in targets_beside(known, entry)]
                self.gives(sum(many), count_completions, 150, known)

    def test_all_links_known(self):
        for links in LONG + [ONE, EXAMPLE, [0, 0]]:
            entries = range(1, len(links))
            self.gives(1, count_completions, len(links), known_of(links, entries))
            self.gives(1, count_completions, len(links), known_of(links, reversed(entries)))

    def test_one_unknown_entry(self):
        for links in LONG:
            for unknown in (1, 2, 60, 149):
                known = known_of(links, [entry for entry in range(1, 150) if entry != unknown])
                wanted = targets_beside(known, unknown)
                self.gives(len(wanted), count_completions, 150, known)

    def test_wrong_arguments(self):
        self.refuses_wrong_beginnings(count_completions, ())


class NthCompletionTest(CompletionCase):
    def test_examples(self):
        self.gives([0, 0, 0, 2], nth_completion, 4, {2: 0}, 1)

    def test_all_of_small_sizes(self):
        for size, known, logs in small_known():
            for number, links in enumerate(logs):
                self.gives(links, nth_completion, size, known, number)
            for number in (-1, len(logs), len(logs) + 1):
                self.refuses(InvalidNumber, nth_completion, size, known, number)

    def test_no_known_link(self):
        for size in (1, 2, 149, 150):
            many = catalan(size - 1)
            for number in (0, many // 3, many // 2, many - 1):
                self.gives(nth_log(size, number), nth_completion, size, {}, number)
            self.refuses(InvalidNumber, nth_completion, size, {}, many)

    def test_first_and_last_number_of_many_known_links(self):
        many = 2 ** 74
        low, high = [0, 0], [0, 0]
        for entry in range(2, 150):
            low.append(0)
            high.append(entry - 1 if entry % 2 else 0)
        self.gives(low, nth_completion, 150, EVEN_TO_0, 0)
        self.gives(low[:149] + [148], nth_completion, 150, EVEN_TO_0, 1)
        self.gives(low[:3] + [2] + low[4:], nth_completion, 150, EVEN_TO_0, many // 2)
        self.gives(high, nth_completion, 150, EVEN_TO_0, many - 1)
        for number in (-1, many, many + 1, GREAT, -GREAT):
            self.refuses(InvalidNumber, nth_completion, 150, EVEN_TO_0, number)

    def test_all_links_known(self):
        for links in LONG + [ONE, EXAMPLE, [0, 0]]:
            known = known_of(links, range(len(links) - 1, 0, -1))
            self.gives(links, nth_completion, len(links), known, 0)
            for number in (-1, 1, 2):
                self.refuses(InvalidNumber, nth_completion, len(links), known, number)

    def test_one_unknown_entry(self):
        for links in LONG:
            for unknown in (1, 2, 60, 149):
                known = known_of(links, [entry for entry in range(1, 150) if entry != unknown])
                wanted = targets_beside(known, unknown)
                for number, link in list(enumerate(wanted))[-3:]:
                    self.gives(links[:unknown] + [link] + links[unknown + 1:], nth_completion, 150, known, number)
                self.refuses(InvalidNumber, nth_completion, 150, known, len(wanted))

    def test_the_order_of_the_keys_does_not_matter(self):
        known = {40: 7, 90: 40, 149: 90, 20: 10}
        many = count_completions(150, known)
        for number in (0, many // 2, many - 1):
            links = self.call(nth_completion, 150, known, number)
            self.gives(links, nth_completion, 150, dict(reversed(known.items())), number)

    def test_wrong_numbers(self):
        for size, known in [(4, {2: 0}), (1, {}), (2, {1: 0}), (150, EVEN_TO_0)]:
            for wrong in NOT_INTEGERS + [-1, GREAT, -GREAT]:
                self.refuses(InvalidNumber, nth_completion, size, known, wrong)

    def test_wrong_arguments_before_the_number(self):
        self.refuses_wrong_beginnings(nth_completion, (0,), (-1,), (None,), (True,), (GREAT,))


class CompletionNumberTest(CompletionCase):
    def test_all_of_small_sizes(self):
        for _, known, logs in small_known():
            for number, links in enumerate(logs):
                self.gives(number, completion_number, links, known)

    def test_logs_that_do_not_have_the_links(self):
        for size in range(1, 6):
            for links in all_logs(size):
                for known in all_known(size):
                    if not known_crossings(known) and not has_links(links, known):
                        self.refuses(Different, completion_number, links, known)
        for links in LONG:
            for entry in (2, 70, 149):
                known = known_of(links, [other for other in range(1, 150) if other != entry])
                for link in targets_beside(known, entry):
                    if link != links[entry]:
                        self.refuses(Different, completion_number, links, {**known, entry: link})
        self.refuses(Different, completion_number, FLAT, {149: 148})
        self.refuses(Different, completion_number, STEPS, {149: 0})

    def test_no_known_link(self):
        for links in [MIXED[0], PAIRS, STEPS, ONE, EXAMPLE, [0, 0]]:
            self.gives(log_number(links), completion_number, links, {})

    def test_all_links_known(self):
        for links in LONG + [ONE, EXAMPLE, [0, 0]]:
            self.gives(0, completion_number, links, known_of(links, range(1, len(links))))

    def test_long_logs_there_and_back(self):
        spread = [range(5, 150, 20), range(149, 0, -9), range(1, 150, 2), [75]]
        for links, entries in zip(MIXED + [PAIRS], spread):
            known = known_of(links, entries)
            many = self.call(count_completions, 150, known)
            numbers = sorted({0, many // 3, many - 1, self.call(completion_number, links, known)})
            found = [self.call(nth_completion, 150, known, number) for number in numbers]
            self.assertIn(links, found)
            self.assertEqual(found, sorted(found))
            for number, completion in zip(numbers, found):
                self.gives(True, is_log, completion)
                self.assertTrue(has_links(completion, known))
                self.gives(number, completion_number, completion, known)
            self.refuses(InvalidNumber, nth_completion, 150, known, many)

    def test_first_and_last_number_of_many_known_links(self):
        self.gives(0, completion_number, FLAT, EVEN_TO_0)
        self.gives(1, completion_number, FLAT[:149] + [148], EVEN_TO_0)
        self.gives(2 ** 73, completion_number, FLAT[:3] + [2] + FLAT[4:], EVEN_TO_0)
        high = [entry - 1 if entry % 2 else 0 for entry in range(150)]
        self.gives(2 ** 74 - 1, completion_number, [0] + high[1:], EVEN_TO_0)

    def test_wrong_logs_come_first(self):
        for wrong in NOT_LOGS:
            for known in ({}, None, {1: 0}, {3: 1, 2: 0}, {True: 0}, wrong):
                self.refuses(InvalidLog, completion_number, wrong, known)

    def test_wrong_known_links(self):
        for links in (ONE, [0, 0], EXAMPLE):
            for wrong in NOT_KNOWN:
                self.refuses(InvalidKnown, completion_number, links, wrong)
        for size in (1, 2, 149, 150):
            for wrong in ({size: 0}, {size - 1: size - 1}, {size: 0, 1: 0}, {True: 0}, {2: True, 1: 0}):
                self.refuses(InvalidKnown, completion_number, FLAT[:size], wrong)

    def test_crossings_come_before_other_links(self):
        self.crosses((2, 3), completion_number, EXAMPLE, {3: 1, 2: 0})
        self.crosses((2, 3), completion_number, EXAMPLE, {6: 5, 3: 1, 2: 0})
        self.crosses((148, 149), completion_number, FLAT, {149: 1, 148: 0})
        for links in CROSSED:
            known = known_of(links, range(1, len(links)))
            self.crosses(all_crossings(links)[0], completion_number, FLAT[:len(links)], known)


class ArgumentsTest(ExactCase):
    def test_sizes_0_and_151(self):
        for size in (0, 151):
            self.refuses(InvalidSize, count_completions, size, {})
            self.refuses(InvalidSize, nth_completion, size, {}, 0)

    def test_results_do_not_follow_later_changes_of_known_links(self):
        known = {2: 0}
        links = nth_completion(4, known, 1)
        known[3] = 0
        self.same(links, [0, 0, 0, 2])
        self.same(count_completions(4, known), 1)
        known.clear()
        self.same(count_completions(4, known), 5)
        self.same(count_logs(4), 5)


if __name__ == "__main__":
    unittest.main()
