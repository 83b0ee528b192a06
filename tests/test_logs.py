"""Objects of the class Log."""

import unittest

from backlinks.chains import shortest_chain
from backlinks.errors import Crossing, InvalidSize, InvalidTarget, InvalidText
from backlinks.links import allowed_targets
from backlinks.logs import Log, TaggedLog
from backlinks.texts import read_log, show_log
from tests.growing import GrowingCase, PlainLog, assign_count
from tests.plain import EXAMPLE, FLAT, GREAT, LONG, ONE, STEPS, all_crossings, all_forms, all_logs
from tests.test_texts import NOT_LOG_TEXTS, NOT_TEXTS


class CreatedTest(GrowingCase):
    def test_examples(self):
        log = Log(0, 0, 2)
        numbers = log.add_all(3, 2, 0)
        self.same([numbers, log.entry_count, log.newest_entry, log.allowed_now, list(log.walk_down()), Log.MOST],
                  [[4, 5, 6], 7, 6, [0, 6], [6, 0], 150])
        self.assertTrue(log == Log.read_from("0 0 2 3 2 0"))

    def test_no_target(self):
        self.is_as(Log(), PlainLog([0]))

    def test_all_small_logs(self):
        for links in [links for size in range(1, 8) for links in all_logs(size)]:
            log = Log(*links[1:])
            self.is_as(log, PlainLog(links))
            self.undoes(log, 0)

    def test_all_lists_of_links_that_cross(self):
        for size in range(4, 7):
            for links in all_forms(size):
                if all_crossings(links):
                    plain = PlainLog([0])
                    error, fields = plain.add_all(links[1:])
                    self.same(self.outcome(Log, *links[1:]), (error, fields))
                    self.assertIs(error, Crossing)

    def test_the_greatest_size(self):
        self.same(Log.MOST, 150)
        self.same(Log().MOST, 150)
        for links in LONG:
            log = Log(*links[1:])
            self.same(log.all_links, links)
            self.same(log.entry_count, 150)
            self.refuses(InvalidSize, Log, *links[1:], 0)
            self.refuses(InvalidSize, Log, *links[1:], None)
        self.refuses(InvalidSize, Log, *[0] * 400)

    def test_wrong_targets(self):
        self.refuses_wrong_targets(Log(), Log)
        self.refuses(InvalidTarget, Log, 1)
        self.refuses(InvalidTarget, Log, 0, 2)
        self.refuses(InvalidTarget, Log, [0, 0, 2])
        self.refuses(InvalidTarget, Log, 0, 0, 3, 1)
        self.refuses(InvalidTarget, Log, 0, 0, True)
        self.crosses((2, 3), Log, 0, 0, 1)
        self.crosses((2, 3), Log, 0, 0, 1, None)
        self.refuses(InvalidTarget, Log, 0, 0, None, 1)


class ReadFromTest(GrowingCase):
    def test_all_small_logs(self):
        for links in [links for size in range(1, 7) for links in all_logs(size)] + LONG:
            log = Log.read_from(show_log(links))
            self.assertIs(type(log), Log)
            self.same(log.all_links, links)
            self.undoes(log, 0)
            self.same(self.call(read_log, show_log(links)), links)

    def test_wrong_texts(self):
        for wrong in NOT_TEXTS + NOT_LOG_TEXTS:
            self.refuses(InvalidText, Log.read_from, wrong)

    def test_off_an_object(self):
        self.same(Log(0, 0).read_from("0 0 2").all_links, [0, 0, 0, 2])


class AddTest(GrowingCase):
    def test_one_by_one(self):
        for links in LONG + [EXAMPLE]:
            log = Log()
            for entry in range(1, len(links)):
                self.same(log.add_entry(links[entry]), entry)
            self.same(log.all_links, links)
            self.undoes(log, len(links) - 1)
            self.same(log.all_links, [0])

    def test_each_target_of_small_logs(self):
        for links in [links for size in range(1, 6) for links in all_logs(size)]:
            for target in range(-1, len(links) + 2):
                log, plain = Log(*links[1:]), PlainLog(links)
                wanted = plain.add_all([target])
                got = self.outcome(log.add_entry, target)
                self.same(got, wanted[0] if isinstance(wanted, list) else wanted)
                self.is_as(log, plain)

    def test_the_least_entries_that_would_cross(self):
        log = Log.read_from("0 0 0 3 4 3 0")
        self.same(log.all_links, [0, 0, 0, 0, 3, 4, 3, 0])
        for target, pair in [(1, (2, 8)), (2, (3, 8)), (3, (7, 8)), (4, (6, 8)), (5, (6, 8)), (6, (7, 8))]:
            self.crosses(pair, log.add_entry, target)
        self.crosses((2, 149), Log(*FLAT[1:149]).add_entry, 1)

    def test_several_at_once(self):
        log = Log()
        self.same(log.add_all(0, 0, 2, 3), [1, 2, 3, 4])
        self.same(log.add_all(2, 0), [5, 6])
        self.same(log.add_all(6), [7])
        self.same(log.all_links, EXAMPLE + [6])
        self.undoes(log, 3)

    def test_all_small_logs_at_once(self):
        for links in [links for size in range(1, 8) for links in all_logs(size)]:
            log = Log()
            self.same(log.add_all(*links[1:]), list(range(1, len(links))))
            self.same(log.all_links, links)
            self.undoes(log, 1 if len(links) > 1 else 0)
            self.same(log.all_links, [0])

    def test_no_target(self):
        for links in (ONE, EXAMPLE, FLAT):
            log = Log(*links[1:])
            self.same(log.add_all(), [])
            self.same(log.all_links, links)
            self.undoes(log, 0)
        log = Log()
        log.add_entry(0)
        self.same(log.add_all(), [])
        log.undo_last()
        self.same(log.all_links, [0])

    def test_a_later_target_that_is_refused(self):
        log = Log(0, 0)
        self.crosses((2, 4), log.add_all, 2, 1)
        self.crosses((2, 4), log.add_all, 2, 1, None)
        self.refuses(InvalidTarget, log.add_all, 2, None, 1)
        self.refuses(InvalidTarget, log.add_all, 2, 3, 5)
        self.refuses(InvalidTarget, log.add_all, 2, 3, True)
        self.is_as(log, PlainLog([0, 0, 0]))
        self.undoes(log, 0)

    def test_more_than_150_entries(self):
        for links in LONG:
            log = Log(*links[1:149])
            self.same(log.entry_count, 149)
            self.refuses(InvalidSize, log.add_all, 148, 149)
            self.refuses(InvalidSize, log.add_all, 148, None)
            self.refuses(InvalidTarget, log.add_all, None, 149)
            self.same(log.entry_count, 149)
            self.same(log.add_entry(148), 149)
            for target in (0, 149, 150, -1, None, True, "0"):
                self.refuses(InvalidSize, log.add_entry, target)
                self.refuses(InvalidSize, log.add_all, target)
                self.refuses(InvalidSize, log.add_all, target, target)
            self.same(log.add_all(), [])
            self.same(log.allowed_now, allowed_targets(links[:149] + [148]))
            self.undoes(log, 1)
            self.same(log.all_links, links[:149])

    def test_wrong_targets(self):
        for links in (ONE, EXAMPLE, FLAT[:149]):
            log = Log(*links[1:])
            self.refuses_wrong_targets(log, log.add_entry)
            self.refuses_wrong_targets(log, log.add_all)
            self.refuses_wrong_targets(log, lambda wrong: log.add_all(wrong, 0))
            self.undoes(log, 0)


class CutTest(GrowingCase):
    def test_each_size(self):
        for links in (EXAMPLE, FLAT, STEPS):
            for count in range(1, len(links) + 1):
                for cut in (lambda log, size: log.cut_to(size), assign_count):
                    log = Log(*links[1:])
                    self.assertIsNone(cut(log, count))
                    self.same(log.all_links, links[:count])
                    self.undoes(log, 1)
                    self.same(log.all_links, links)

    def test_the_present_size_is_a_change(self):
        log = Log(0, 0, 2)
        log.entry_count = 4
        log.cut_to(4)
        self.same(log.all_links, [0, 0, 0, 2])
        self.undoes(log, 2)
        log = Log()
        log.entry_count = 1
        self.undoes(log, 1)

    def test_size_one(self):
        log = Log(0, 0, 2)
        log.entry_count = 1
        self.is_as(log, PlainLog([0]))
        self.refuses_wrong_counts(log)
        self.refuses(InvalidSize, log.cut_to, 2)
        self.undoes(log, 1)

    def test_other_sizes(self):
        for links in (ONE, [0, 0], EXAMPLE, FLAT[:149]):
            log = Log(*links[1:])
            self.refuses_wrong_counts(log)
            self.undoes(log, 0)

    def test_entries_after_a_cut(self):
        log = Log(*FLAT[1:])
        log.entry_count -= 1
        self.same(log.add_entry(148), 149)
        log.cut_to(3)
        self.same(log.add_all(2, 2), [3, 4])
        self.same(log.all_links, [0, 0, 0, 2, 2])
        self.undoes(log, 4)
        self.same(log.all_links, FLAT)


class UndoTest(GrowingCase):
    def test_nothing_to_undo(self):
        for log in (Log(), Log(0), Log(*FLAT[1:]), Log.read_from("-"), Log.read_from("0 0 2")):
            self.undoes(log, 0)

    def test_each_kind_of_change(self):
        log = Log(0, 0)
        log.add_entry(2)
        log.add_all(3, 2, 0)
        log.entry_count = 5
        log.cut_to(2)
        states = [[0, 0], [0, 0, 0, 2, 3], EXAMPLE, [0, 0, 0, 2], [0, 0, 0]]
        for links in states[1:]:
            self.assertIsNone(log.undo_last())
            self.is_as(log, PlainLog(links))
        self.undoes(log, 0)

    def test_changes_after_undone_ones(self):
        log = Log()
        log.add_all(0, 0, 0)
        log.undo_last()
        log.add_entry(0)
        log.add_entry(1)
        log.undo_last()
        log.add_entry(0)
        self.same(log.all_links, [0, 0, 0])
        self.undoes(log, 2)
        self.same(log.all_links, [0])

    def test_refused_calls_are_no_changes(self):
        self.refuses_each_kind_of_change(Log(*EXAMPLE[1:]))

    def test_three_hundred_changes(self):
        log = Log()
        for _ in range(75):
            log.add_all(0, 0)
            log.cut_to(2)
            log.entry_count = 2
            log.undo_last()
        for _ in range(76):
            log.undo_last()
        self.same(log.all_links, [0, 0])
        for at in range(148):
            log.add_entry(at + 1)
        self.same(log.entry_count, 150)
        self.undoes(log, 148 + 74)
        self.same(log.all_links, [0])

    def test_many_calls_without_a_plan(self):
        for seed in range(25):
            self.does_as(Log(), PlainLog([0]), seed, 120)
            self.does_as(Log(*FLAT[1:148]), PlainLog(FLAT[:148]), seed, 40)


class AskedTest(GrowingCase):
    def test_what_cannot_be_assigned(self):
        for log in (Log(), Log(*EXAMPLE[1:])):
            self.cannot_be_assigned(log, ["newest_entry", "all_links", "allowed_now"])

    def test_new_lists(self):
        self.gives_new_lists(Log(*EXAMPLE[1:]), ["all_links", "allowed_now"])
        log = Log()
        numbers = log.add_all(0, 0)
        numbers.append(7)
        self.same(log.add_all(0), [3])
        self.is_as(log, PlainLog([0, 0, 0, 0]))

    def test_walk_down(self):
        for links in LONG + [ONE, EXAMPLE] + all_logs(6):
            log = Log(*links[1:])
            self.same(list(log.walk_down()), shortest_chain(links, len(links) - 1, 0))

    def test_walk_down_twice_at_the_same_time(self):
        log = Log(*EXAMPLE[1:6])
        one, other = log.walk_down(), log.walk_down()
        self.same([next(one), next(one), next(other), next(one), next(other), next(other)], [5, 2, 5, 0, 2, 0])
        self.same([list(one), list(other)], [[], []])

    def test_walk_down_left_early(self):
        log = Log(*STEPS[1:])
        walk = log.walk_down()
        self.same([next(walk), next(walk)], [149, 148])
        walk.close()
        self.same(list(log.walk_down()), list(range(149, -1, -1)))

    def test_it_is_quick(self):
        for links in LONG:
            log = Log(*links[1:149])
            self.is_quick(0.02, lambda log=log: log.allowed_now)
            self.is_quick(0.02, lambda log=log: (log.add_entry(148), log.undo_last()))
            self.is_quick(0.1, Log, *links[1:])


class EqualTest(GrowingCase):
    def test_all_small_logs(self):
        logs = [links for size in range(1, 6) for links in all_logs(size)]
        for links in logs:
            for other in logs:
                self.assertIs(Log(*links[1:]) == Log(*other[1:]), links == other)
                self.assertIs(Log(*links[1:]) != Log(*other[1:]), links != other)

    def test_what_was_before_does_not_matter(self):
        log = Log(0, 0)
        log.add_entry(2)
        log.undo_last()
        log.cut_to(3)
        self.assertTrue(log == Log(0, 0))
        self.assertTrue(Log(0, 0) == log)
        log.add_entry(0)
        self.assertFalse(log == Log(0, 0))
        self.assertTrue(log == log)

    def test_tagged_logs(self):
        for links in (ONE, [0, 0, 0, 2], FLAT):
            self.assertFalse(Log(*links[1:]) == TaggedLog(*links[1:], tag="plain"))
            self.assertFalse(TaggedLog(*links[1:], tag="plain") == Log(*links[1:]))
            self.assertTrue(Log(*links[1:]) != TaggedLog(*links[1:], tag="plain"))
            self.assertTrue(TaggedLog(*links[1:], tag="plain") != Log(*links[1:]))
            # Python asks the tagged one first, whichever stands on the left.
            self.assertFalse(Log.__eq__(Log(*links[1:]), TaggedLog(*links[1:], tag="plain")))

    def test_other_values(self):
        for log, others in [(Log(), [0, 1, True, None, "-", [0], (0,), {0: 0}, "Log()", Log, b"0", GREAT]),
                            (Log(0, 0), [[0, 0, 0], "0 0", (0, 0), 3, [0, 0]])]:
            for other in others:
                self.assertFalse(log == other)
                self.assertFalse(other == log)
                self.assertTrue(log != other)

    def test_len(self):
        for links in LONG + [ONE, EXAMPLE]:
            self.same(len(Log(*links[1:])), len(links))
        self.same(len(Log()), 1)
        self.assertTrue(Log())

    def test_two_objects_beside_each_other(self):
        one, other = Log(0, 0), Log(0, 0)
        one.add_entry(2)
        self.same(other.all_links, [0, 0, 0])
        other.cut_to(1)
        self.same(one.all_links, [0, 0, 0, 2])
        self.undoes(other, 1)
        self.undoes(one, 1)


if __name__ == "__main__":
    unittest.main()
