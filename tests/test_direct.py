"""Point 15: which lists of changes are direct, and which changes must come before which."""

import itertools
import unittest

from backlinks.changes import after_changes, changes_between, is_direct, orders_between
from tests.plain import EXAMPLE, FLAT, GREAT, LONG, MIXED, NOT_LISTS, ONE, PAIRS, STEPS
from tests.plain import ExactCase, all_crossings, all_logs


def small_pairs(most):
    """Yields each two logs of one size, for the sizes up to this one."""
    for size in range(1, most + 1):
        yield from itertools.product(all_logs(size), repeat=2)


def different(links, other):
    """Returns the changes of the entries with different links, in ascending order."""
    return [(entry, other[entry]) for entry in range(1, len(links)) if links[entry] != other[entry]]


def gives_logs(links, changes):
    """Returns whether each of these changes, performed one after another, gives a log."""
    changed = list(links)
    for entry, target in changes:
        changed[entry] = target
        if all_crossings(changed):
            return False
    return True


def plain_orders(links, other):
    """Returns the tuples of point 15 in ascending order: each entry w with each entry u that it crosses there."""
    entries = [entry for entry, _ in different(links, other)]
    orders = []
    for before, entry in itertools.permutations(entries, 2):
        both = {before: links[before], entry: other[entry]}
        low, high = min(both), max(both)
        if both[low] < both[high] < low:
            orders.append((before, entry))
    return sorted(orders)


def keeps(changes, orders):
    """Returns whether the changes of all these tuples come in this order."""
    place = {entry: at for at, (entry, _) in enumerate(changes)}
    return all(place[before] < place[entry] for before, entry in orders)


class PointFifteenTest(ExactCase):
    """Both directions of "if and only if", which the functions rest on."""

    def test_an_order_is_direct_if_and_only_if_it_keeps_all_orders(self):
        for links, other in small_pairs(5):
            orders = plain_orders(links, other)
            rows = list(itertools.permutations(different(links, other)))
            for row in rows:
                self.assertEqual(gives_logs(links, row), keeps(row, orders))
            self.assertTrue(any(keeps(row, orders) for row in rows))

    def test_it_is_so_for_some_logs_of_six_entries(self):
        logs = all_logs(6)
        for links, other in itertools.product(logs[::3], logs[1::4]):
            orders = plain_orders(links, other)
            for row in itertools.permutations(different(links, other)):
                self.assertEqual(gives_logs(links, row), keeps(row, orders))

    def test_the_functions_say_so(self):
        for links, other in small_pairs(5):
            orders = self.call(orders_between, links, other)
            for row in itertools.permutations(different(links, other)):
                self.assertEqual(self.call(is_direct, links, other, list(row)), keeps(row, orders))


class IsDirectTest(ExactCase):
    def test_all_orders_of_small_logs(self):
        for links, other in small_pairs(5):
            for row in itertools.permutations(different(links, other)):
                self.gives(gives_logs(links, row), is_direct, links, other, list(row))

    def test_lists_of_any_changes_of_small_logs(self):
        changes = [(entry, target) for entry in range(1, 4) for target in range(entry)]
        for links, other in small_pairs(4):
            if len(links) == 4:
                rows = itertools.permutations(different(links, other))
                direct = [list(row) for row in rows if gives_logs(links, row)]
                for many in range(4):
                    for row in itertools.product(changes, repeat=many):
                        self.gives(list(row) in direct, is_direct, links, other, list(row))

    def test_equal_logs(self):
        for links in LONG + [ONE, EXAMPLE]:
            self.gives(True, is_direct, links, links, [])
            self.gives(False, is_direct, links, links, [()])
            self.gives(False, is_direct, links, links, [(1, 0)])
            self.gives(False, is_direct, links, links, [(len(links) - 1, links[-1])])

    def test_a_change_left_out_added_or_twice(self):
        for links, other in [(EXAMPLE, [0, 0, 1, 2, 2, 4, 5]), (FLAT, STEPS), (STEPS, FLAT), (MIXED[0], MIXED[2]),
                             (PAIRS, FLAT)]:
            changes = changes_between(links, other)
            self.gives(True, is_direct, links, other, list(changes))
            self.gives(False, is_direct, links, other, [])
            self.gives(False, is_direct, links, other, changes + changes)
            for at in (0, len(changes) // 2, len(changes) - 1):
                self.gives(False, is_direct, links, other, changes[:at] + changes[at + 1:])
                self.gives(False, is_direct, links, other, changes[:at + 1] + changes[at:])
                self.gives(False, is_direct, links, other, changes + [changes[at]])
                self.gives(False, is_direct, links, other, changes[:at] + [(1, 0)] + changes[at:])
                entry, target = changes[at]
                for wrong in ([entry, target], (entry,), (entry, target, 0), (entry, links[entry]), (entry, entry - 2),
                              (entry, -1), (entry, entry), (entry, str(target)), (str(entry), target), None, entry,
                              (0, 0), (len(links), 0), (True, 0), (entry, False), {entry: target}):
                    if repr(wrong) != repr((entry, target)):
                        row = changes[:at] + [wrong] + changes[at + 1:]
                        self.gives(False, is_direct, links, other, row)

    def test_there_and_back_is_not_direct(self):
        links, other = [0, 0, 0, 2], [0, 0, 1, 1]
        self.gives(True, is_direct, links, other, [(2, 1), (3, 1)])
        self.gives(False, is_direct, links, other, [(3, 1), (2, 1)])
        self.gives(False, is_direct, links, other, [(2, 1), (2, 0), (2, 1), (3, 1)])
        self.gives(False, is_direct, links, other, [(3, 2), (2, 1), (3, 1)])
        self.gives(False, is_direct, links, other, [(1, 0), (2, 1), (3, 1)])
        self.gives(False, is_direct, links, links, [(2, 1), (2, 0)])

    def test_true_is_not_a_target(self):
        self.gives(False, is_direct, [0, 0, 0], [0, 0, 1], [(2, True)])
        self.gives(False, is_direct, [0, 0, 1], [0, 0, 0], [(2, False)])
        self.gives(True, is_direct, [0, 0, 1], [0, 0, 0], [(2, 0)])

    def test_values_of_any_kind(self):
        changes = changes_between(EXAMPLE, FLAT[:7])
        wrong_values = NOT_LISTS + [
            tuple(changes), [changes], (changes,), [tuple(changes)], dict(changes),
            [list(change) for change in changes], [None], [[]], [()], [True], [0], ["10"], [GREAT], [{}],
            [[[[[[[[[[[[[[[[[[[(1, 0)]]]]]]]]]]]]]]]]]]],
            FLAT[:7], EXAMPLE, [(0, 0)] * 400,
        ]
        for wrong in wrong_values:
            self.gives(False, is_direct, EXAMPLE, FLAT[:7], wrong)
            self.gives(False, is_direct, EXAMPLE, EXAMPLE, wrong)
            self.gives(False, is_direct, ONE, ONE, wrong)

    def test_wrong_arguments(self):
        self.refuses_wrong_two(is_direct, [])
        self.refuses_wrong_two(is_direct, None)
        self.refuses_wrong_two(is_direct, [(2, 1), (3, 1)])


class OrdersBetweenTest(ExactCase):
    def test_examples(self):
        self.gives([(2, 3)], orders_between, [0, 0, 0, 2], [0, 0, 1, 1])

    def test_all_small_logs(self):
        for links, other in small_pairs(6):
            self.gives(plain_orders(links, other), orders_between, links, other)

    def test_equal_logs(self):
        for links in LONG + [ONE, EXAMPLE]:
            self.gives([], orders_between, links, list(links))

    def test_long_logs(self):
        for links, other in itertools.permutations(LONG, 2):
            self.gives(plain_orders(links, other), orders_between, links, other)
        pairs = [(before, entry) for before in range(2, 149) for entry in range(before + 1, 150)]
        self.gives(pairs, orders_between, FLAT, [0, 0] + [1] * 148)
        self.gives([(entry, before) for entry, before in sorted((pair[1], pair[0]) for pair in pairs)],
                   orders_between, [0, 0] + [1] * 148, FLAT)
        self.gives([], orders_between, FLAT, STEPS)
        self.gives([], orders_between, STEPS, FLAT)

    def test_pairs_that_only_follow_are_left_out(self):
        self.gives([(2, 5), (5, 4)], orders_between, [0, 0, 0, 2, 3, 3], [0, 0, 1, 2, 2, 1])
        self.gives([(3, 4), (4, 5)], orders_between, [0, 0, 1, 1, 0, 0], [0, 0, 1, 2, 2, 1])

    def test_wrong_arguments(self):
        self.refuses_wrong_two(orders_between)

    def test_it_is_quick(self):
        for links, other in itertools.permutations(LONG, 2):
            self.is_quick(0.05, orders_between, links, other)


if __name__ == "__main__":
    unittest.main()
