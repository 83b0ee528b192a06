"""The log after changes, and direct lists of changes."""

import itertools
import unittest

from backlinks.changes import after_changes, changes_between, is_direct
from backlinks.errors import BacklinkError, InvalidChange
from tests.plain import EXAMPLE, FLAT, GREAT, LONG, MIXED, NESTED, NOT_INTEGERS, NOT_LISTS, NOT_LOGS, ONE, PAIRS, STEPS
from tests.plain import ExactCase, all_crossings, all_logs

# What is not a change for size 7, for size 1 and for any size between.
NOT_CHANGES = NOT_LISTS + [
    [], [1, 0], [2, 1], [[1, 0]], [(1, 0)], NESTED, (), (1,), (1, 0, 0), (2, 1, 0), (1, 0, None), ((1, 0),),
    ((1, 0), (2, 0)),
    (0, 0), (0, -1), (0, 1), (-1, 0), (-1, -2), (-2, -3), (7, 0), (7, 6), (8, 0), (150, 0), (GREAT, 0), (-GREAT, 0),
    (1, 1), (2, 2), (6, 6), (1, 2), (2, 6), (1, -1), (6, -1), (6, GREAT), (6, -GREAT), (True, 0), (True, False),
    (2, True), (2, False), (1, False), (False, 0), (None, 0), (2, None), (None, None), ("1", "0"), (2, "0"), ("2", 0),
    (b"\x02", 0), (2, b"\x00"), ([2], [0]), (2, [0]), ([2], 0), ((2,), (0,)), (2, (0,)), ({}, {}), (2, {}), "10",
    "(1, 0)", b"\x01\x00", {1: 0}, {2: 1, 1: 0},
]


def all_changes(size):
    """Returns all changes for a size."""
    return [(entry, target) for entry in range(1, size) for target in range(entry)]


def plainly_changed(links, changes):
    """Returns the log after these changes, or the index of the first one after which two entries cross."""
    changed = list(links)
    for index, (entry, target) in enumerate(changes):
        changed[entry] = target
        if all_crossings(changed):
            return index
    return changed


class ChangesCase(ExactCase):
    """A check that the tests of this file share."""

    def stops_at(self, index, links, *changes):
        """Fails unless the changes raise InvalidChange with this index in its field."""
        with self.assertRaises(BacklinkError, msg=f"{links} {changes}") as caught:
            self.call(after_changes, links, *changes)
        self.assertIs(type(caught.exception), InvalidChange)
        self.same(caught.exception.index, index)

    def does_as_plainly(self, links, changes):
        """Fails unless the changes give what they give if they are performed plainly, one after another."""
        wanted = plainly_changed(links, changes)
        if isinstance(wanted, int):
            self.stops_at(wanted, links, *changes)
        else:
            self.gives(wanted, after_changes, links, *changes)


class AfterChangesTest(ChangesCase):
    def test_examples(self):
        self.gives([0, 0, 1, 0], after_changes, [0, 0, 0, 2], (2, 1), (3, 0))
        self.stops_at(0, [0, 0, 0, 2], (3, 1), (2, 1))

    def test_no_change(self):
        for links in LONG + [ONE, EXAMPLE]:
            self.gives(links, after_changes, links)

    def test_a_change_to_the_link_that_is_there(self):
        for links in LONG + [EXAMPLE]:
            for entry in range(1, len(links)):
                self.gives(links, after_changes, links, (entry, links[entry]))
            self.gives(links, after_changes, links, *[(1, 0)] * 20)

    def test_each_change_and_each_two_changes_of_small_logs(self):
        for links in [links for size in range(1, 6) for links in all_logs(size)]:
            changes = all_changes(len(links))
            for row in [(change,) for change in changes] + list(itertools.product(changes, changes)):
                self.does_as_plainly(links, row)

    def test_each_three_changes_of_one_log(self):
        changes = [(4, 0), (4, 3), (3, 1), (3, 2), (2, 0), (2, 1), (5, 3), (6, 2)]
        for row in itertools.product(changes, repeat=3):
            self.does_as_plainly(EXAMPLE, row)

    def test_twenty_changes(self):
        self.gives([0] * 130 + list(range(129, 149)), after_changes, FLAT, *[(at, at - 1) for at in range(130, 150)])
        self.gives(STEPS[:130] + [0] * 20, after_changes, STEPS, *[(at, 0) for at in range(149, 129, -1)])
        self.gives(FLAT, after_changes, FLAT, *[(149, 148), (149, 0)] * 10)
        self.stops_at(19, FLAT, *[(149, 148)] * 19, (149, 147))
        self.stops_at(19, STEPS, *[(149, 0)] * 19, (148, 147, 0))

    def test_a_change_after_which_two_entries_cross(self):
        self.stops_at(0, [0, 0, 0, 2], (3, 1))
        self.stops_at(1, [0, 0, 0, 2], (3, 2), (3, 1))
        self.stops_at(3, [0, 0, 0, 2], (3, 0), (2, 1), (2, 0), (3, 1))
        self.stops_at(0, FLAT, (149, 1))
        self.stops_at(0, PAIRS, (149, 1))
        self.stops_at(1, STEPS, (100, 0), (101, 50))
        self.stops_at(1, STEPS, (101, 50), (100, 0))

    def test_the_first_wrong_change_counts_whatever_is_wrong_with_it(self):
        self.stops_at(0, [0, 0, 0, 2], (3, 1), None)
        self.stops_at(0, [0, 0, 0, 2], None, (3, 1))
        self.stops_at(1, [0, 0, 0, 2], (2, 0), (3, 1), (0, 0))
        self.stops_at(1, [0, 0, 0, 2], (2, 0), (0, 0), (3, 1))
        self.stops_at(0, [0, 0, 0, 2], [2, 0], (2, 0))

    def test_what_was_wrong_for_a_while_is_wrong(self):
        # After both changes no two entries cross.
        self.stops_at(0, [0, 0, 0, 0], (3, 1), (2, 1))
        self.stops_at(1, STEPS, (100, 0), (101, 50), (100, 50))

    def test_values_that_are_no_changes(self):
        for wrong in NOT_CHANGES:
            self.stops_at(0, EXAMPLE, wrong)
            self.stops_at(0, EXAMPLE, wrong, (2, 1))
            self.stops_at(1, EXAMPLE, (6, 5), wrong)
            self.stops_at(1, EXAMPLE, (6, 5), wrong, (6, 5))
            self.stops_at(19, EXAMPLE, *[(6, 5)] * 19, wrong)
            self.stops_at(0, ONE, wrong)
        for wrong in NOT_INTEGERS:
            self.stops_at(1, EXAMPLE, (6, 5), (wrong, 0))
            self.stops_at(1, EXAMPLE, (6, 5), (6, wrong))

    def test_the_size_decides_which_entries_there_are(self):
        for size in (2, 3, 149, 150):
            links = FLAT[:size]
            self.gives(FLAT[:size - 1] + [size - 2], after_changes, links, (size - 1, size - 2))
            for wrong in [(size, 0), (size, size - 1), (size - 1, size - 1), (0, 0), (size + 1, 0), (-1, 0)]:
                self.stops_at(0, links, wrong)
        self.stops_at(0, ONE, (0, 0))
        self.stops_at(0, ONE, (1, 0))

    def test_wrong_logs_come_first(self):
        self.refuses_wrong_logs(
            after_changes, (), ((1, 0),), (None,), ((3, 1), (2, 1)), ([1, 0], (0, 0)), ((True, 0),) * 20)

    def test_the_log_and_the_changes_stay_as_they_are(self):
        links = list(EXAMPLE)
        result = after_changes(links, (6, 5))
        self.same(links, EXAMPLE)
        result[1] = "changed"
        self.same(links, EXAMPLE)
        self.same(after_changes(links, (6, 5)), [0, 0, 0, 2, 3, 2, 5])


class ChangesBetweenTest(ChangesCase):
    def is_found(self, links, other):
        """Fails unless the function gives a direct list of changes, and an equal one again."""
        changes = self.call(changes_between, links, other)
        self.assertIs(type(changes), list)
        wanted = [(entry, other[entry]) for entry in range(len(links)) if links[entry] != other[entry]]
        self.same(sorted(changes), wanted)
        self.same(plainly_changed(links, changes), other)
        self.gives(list(changes), changes_between, links, other)
        self.gives(True, is_direct, links, other, changes)

    def test_examples(self):
        self.gives([(2, 1), (3, 1)], changes_between, [0, 0, 0, 2], [0, 0, 1, 1])

    def test_all_small_logs(self):
        for size in range(1, 7):
            for links, other in itertools.product(all_logs(size), repeat=2):
                self.is_found(links, other)

    def test_many_logs_of_seven_entries(self):
        logs = all_logs(7)
        for links, other in itertools.product(logs[::5], logs[2::7]):
            self.is_found(links, other)
            self.is_found(other, links)

    def test_equal_logs(self):
        for links in LONG + [ONE, EXAMPLE]:
            self.gives([], changes_between, links, list(links))
            self.gives([], changes_between, links, links)

    def test_long_logs_in_both_directions(self):
        for links, other in [(FLAT, STEPS), (STEPS, FLAT), (STEPS, PAIRS), (FLAT, MIXED[0]), (MIXED[0], MIXED[1]),
                             (MIXED[1], MIXED[0])]:
            changes = self.call(changes_between, links, other)
            differ = [entry for entry in range(150) if links[entry] != other[entry]]
            self.same(sorted(changes), [(entry, other[entry]) for entry in differ])
            changed = list(links)
            for change in changes:
                changed = after_changes(changed, change)
            self.same(changed, other)

    def test_each_entry_that_has_a_link_but_the_first_one_differs(self):
        self.same(len(changes_between(FLAT, STEPS)), 148)
        self.same(changes_between([0, 0, 0], [0, 0, 1]), [(2, 1)])
        self.same(changes_between([0, 0, 1], [0, 0, 0]), [(2, 0)])

    def test_wrong_arguments(self):
        self.refuses_wrong_two(changes_between)

    def test_it_is_quick(self):
        for links, other in itertools.permutations(LONG, 2):
            self.is_quick(0.02, changes_between, links, other)
            self.is_quick(0.05, is_direct, links, other, changes_between(links, other))
            self.is_quick(0.05, after_changes, links, *[(at, links[at]) for at in range(130, 150)])


if __name__ == "__main__":
    unittest.main()
