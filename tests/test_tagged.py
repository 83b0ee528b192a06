"""Objects of the class TaggedLog."""

import unittest

from backlinks.chains import shortest_chain
from backlinks.errors import InvalidSize, InvalidTag, InvalidTarget, NothingToUndo
from backlinks.logs import Log, TaggedLog
from tests.growing import NOT_TAGS, GrowingCase, PlainLog, assign_count
from tests.plain import EXAMPLE, FLAT, LONG, MIXED, NOT_INTEGERS, ONE, STEPS, all_crossings, all_forms, all_logs

TAGS = ["a", "z", "az", "plain", "news", "base", "abcdefgh", "zzzzzzzz", "none"]


def tagged(links, tag="base"):
    """Returns an object with this log, all entries with this tag."""
    return TaggedLog(*links[1:], tag=tag)


def with_tag(tag):
    """Creates an object with the log of example targets and this tag, as a call."""
    return TaggedLog(0, 0, tag=tag)


class CreatedTest(GrowingCase):
    def test_examples(self):
        log = TaggedLog(0, 0, tag="base")
        numbers = [log.add_entry(2, tag="news"), log.add_entry(2), log.add_entry(0)]
        self.same(numbers, [3, 4, 5])
        self.same(log.all_tags, ["base", "base", "base", "news", "plain", "plain"])
        self.same([log.chain_to_tag("news"), log.chain_to_tag("base")], [[5, 4, 3], [5, 4, 2]])

    def test_all_entries_have_the_tag(self):
        for tag in TAGS:
            for links in LONG + [ONE, EXAMPLE] + all_logs(4):
                log = tagged(links, tag)
                self.same(log.all_tags, [tag] * len(links))
                self.same(log.all_links, links)
                self.undoes(log, 0)
        self.is_as(tagged(EXAMPLE), PlainLog(EXAMPLE, ["base"] * 7))
        self.is_as(TaggedLog(tag="a"), PlainLog([0], ["a"]))

    def test_it_is_a_log(self):
        self.assertIsInstance(tagged(EXAMPLE), Log)
        self.assertTrue(issubclass(TaggedLog, Log))
        self.same([TaggedLog.MOST, tagged(ONE).MOST], [150, 150])

    def test_the_tag_is_passed_by_name(self):
        with self.assertRaises(TypeError):
            TaggedLog(0, 0)
        with self.assertRaises(TypeError):
            tagged(EXAMPLE).add_entry(0, "news")

    def test_wrong_tags(self):
        for wrong in NOT_TAGS:
            self.refuses(InvalidTag, with_tag, wrong)
            self.refuses(InvalidTag, lambda wrong: TaggedLog(tag=wrong), wrong)

    def test_wrong_tags_come_first(self):
        for wrong in NOT_TAGS:
            self.refuses(InvalidTag, lambda wrong: TaggedLog(1, tag=wrong), wrong)
            self.refuses(InvalidTag, lambda wrong: TaggedLog(0, 0, 1, tag=wrong), wrong)
            self.refuses(InvalidTag, lambda wrong: TaggedLog(*[0] * 150, tag=wrong), wrong)
            self.refuses(InvalidTag, lambda wrong: TaggedLog(wrong, tag=wrong), wrong)

    def test_wrong_targets(self):
        self.refuses(InvalidSize, lambda: TaggedLog(*[0] * 150, tag="a"))
        for wrong in NOT_INTEGERS + [-1, 1, 2]:
            self.refuses(InvalidTarget, lambda wrong: TaggedLog(wrong, tag="a"), wrong)
        for links in all_forms(5):
            if all_crossings(links):
                error, fields = PlainLog([0]).add_all(links[1:])
                self.same(self.outcome(TaggedLog, *links[1:], tag="a"), (error, fields))


class AddTest(GrowingCase):
    def test_one_by_one_with_and_without_a_tag(self):
        log = TaggedLog(tag="base")
        for entry in range(1, 150):
            self.same(log.add_entry(entry - 1, tag="even") if entry % 2 == 0 else log.add_entry(entry - 1), entry)
        self.same(log.all_tags, ["base"] + ["plain" if entry % 2 else "even" for entry in range(1, 150)])
        self.same(log.all_links, STEPS)
        for tag in ("a", "plain"):
            self.refuses(InvalidSize, lambda tag: log.add_entry(149, tag=tag), tag)
        for wrong in NOT_TAGS:
            self.refuses(InvalidTag, lambda wrong: log.add_entry(149, tag=wrong), wrong)
        self.undoes(log, 149)
        self.same(log.all_tags, ["base"])

    def test_each_tag(self):
        for tag in TAGS:
            log = tagged(EXAMPLE)
            self.same(log.add_entry(6, tag=tag), 7)
            self.same(log.all_tags, ["base"] * 7 + [tag])
            self.same(log.chain_to_tag(tag), [7])

    def test_several_at_once_are_plain(self):
        log = TaggedLog(0, tag="base")
        self.same(log.add_all(0, 2, 3), [2, 3, 4])
        self.same(log.all_tags, ["base", "base", "plain", "plain", "plain"])
        self.same(log.add_all(), [])
        self.same(log.all_tags, ["base", "base", "plain", "plain", "plain"])
        self.undoes(log, 1)
        self.same(log.all_tags, ["base", "base"])

    def test_refused_entries_leave_the_tags(self):
        for links in (ONE, EXAMPLE, FLAT[:149]):
            log = tagged(links)
            self.refuses_wrong_targets(log, log.add_entry)
            self.refuses_wrong_targets(log, log.add_all)
            self.refuses_wrong_targets(log, lambda wrong: log.add_entry(wrong, tag="news"))
            for wrong in NOT_TAGS:
                for target in (0, None, 150, len(links)):
                    self.refuses(InvalidTag, lambda target: log.add_entry(target, tag=wrong), target)
            self.same(log.all_tags, ["base"] * len(links))
            self.undoes(log, 0)
        self.refuses_each_kind_of_change(tagged(EXAMPLE))


class CutAndUndoTest(GrowingCase):
    def test_cuts_remove_tags(self):
        for cut in (lambda log, size: log.cut_to(size), assign_count):
            for count in range(1, 7):
                log = TaggedLog(0, tag="base")
                for entry, tag in enumerate(["c", "d", "e", "f"], 2):
                    log.add_entry(0, tag=tag)
                self.assertIsNone(cut(log, count))
                self.same(log.all_tags, ["base", "base", "c", "d", "e", "f"][:count])
                self.same(log.entry_count, count)
                log.undo_last()
                self.same(log.all_tags, ["base", "base", "c", "d", "e", "f"])
                self.undoes(log, 4)
                self.same(log.all_tags, ["base", "base"])

    def test_wrong_sizes(self):
        for links in (ONE, EXAMPLE, FLAT[:149]):
            log = tagged(links)
            self.refuses_wrong_counts(log)
            self.same(log.all_tags, ["base"] * len(links))
            self.undoes(log, 0)

    def test_tags_after_cuts_and_undone_changes(self):
        log = TaggedLog(0, 0, tag="base")
        log.add_entry(2, tag="news")
        log.cut_to(2)
        log.add_entry(0, tag="late")
        log.add_all(0, 0)
        self.same(log.all_tags, ["base", "base", "late", "plain", "plain"])
        log.undo_last()
        log.undo_last()
        self.same(log.all_tags, ["base", "base"])
        log.undo_last()
        self.same(log.all_tags, ["base", "base", "base", "news"])
        self.refuses(InvalidTag, log.chain_to_tag, "late")
        self.same(log.chain_to_tag("news"), [3])
        log.entry_count = 4
        log.undo_last()
        log.undo_last()
        self.refuses(InvalidTag, log.chain_to_tag, "news")
        self.refuses(NothingToUndo, log.undo_last)
        self.same(log.all_tags, ["base", "base", "base"])

    def test_many_calls_without_a_plan(self):
        for seed in range(25):
            self.does_as(TaggedLog(tag="a"), PlainLog([0], ["a"]), seed, 120)
            self.does_as(tagged(FLAT[:148]), PlainLog(FLAT[:148], ["base"] * 148), seed, 40)


class ChainToTagTest(GrowingCase):
    def test_a_tag_of_several_entries(self):
        for links in LONG + [EXAMPLE]:
            log = TaggedLog(tag="base")
            for entry in range(1, len(links)):
                log.add_entry(links[entry], tag=["a", "b", "c"][entry % 3])
            newest = len(links) - 1
            for at, tag in enumerate(["a", "b", "c"]):
                entry = max(entry for entry in range(1, newest + 1) if entry % 3 == at)
                self.same(self.call(log.chain_to_tag, tag), shortest_chain(links, newest, entry))
            self.same(self.call(log.chain_to_tag, "base"), shortest_chain(links, newest, 0))

    def test_a_tag_of_one_old_entry(self):
        for links in MIXED:
            for at in (1, 40, 100, 148):
                log = tagged(links[:at], "old")
                log.add_entry(links[at], tag="wanted")
                log.add_all(*links[at + 1:])
                self.same(log.chain_to_tag("wanted"), shortest_chain(links, 149, at))
                self.same(log.chain_to_tag("old"), shortest_chain(links, 149, at - 1))
                self.same(log.chain_to_tag("plain"), [149])

    def test_tags_that_no_entry_has(self):
        for log in (tagged(ONE), tagged(EXAMPLE), tagged(FLAT)):
            for wrong in NOT_TAGS + ["plain", "bas", "basea", "ase", "bases", ["base"], ("base",), "news", 7, 149]:
                self.refuses(InvalidTag, log.chain_to_tag, wrong)

    def test_new_lists(self):
        log = tagged(EXAMPLE)
        self.gives_new_lists(log, ["all_tags", "all_links", "allowed_now"])
        log.add_entry(0, tag="news")
        chain = log.chain_to_tag("base")
        chain.append(99)
        self.same(log.chain_to_tag("base"), [7, 6])
        self.cannot_be_assigned(log, ["all_tags", "newest_entry", "all_links", "allowed_now"])


class EqualTest(GrowingCase):
    def test_logs_and_tags_decide(self):
        for links in all_logs(4):
            for other in all_logs(4):
                self.assertIs(tagged(links) == tagged(other), links == other)
                self.assertIs(tagged(links) != tagged(other), links != other)
                self.assertFalse(tagged(links, "a") == tagged(other, "b"))
                self.assertFalse(Log(*links[1:]) == tagged(other))
                self.assertFalse(tagged(links) == Log(*other[1:]))

    def test_one_tag_decides(self):
        one, other = TaggedLog(0, tag="base"), TaggedLog(0, tag="base")
        one.add_entry(0, tag="news")
        other.add_entry(0)
        self.assertFalse(one == other)
        other.undo_last()
        other.add_entry(0, tag="news")
        self.assertTrue(one == other)
        one.add_entry(2)
        other.add_all(2)
        self.assertTrue(one == other)
        other.add_entry(2, tag="plain")
        self.assertTrue(one != other)

    def test_other_values(self):
        for other in ([0, 0, 0], "0 0", None, 3, ["base"] * 3, ([0, 0, 0], ["base"] * 3), TaggedLog):
            self.assertFalse(with_tag("base") == other)
            self.assertFalse(other == with_tag("base"))
            self.assertTrue(with_tag("base") != other)

    def test_len(self):
        for links in LONG + [ONE, EXAMPLE]:
            self.same(len(tagged(links)), len(links))


if __name__ == "__main__":
    unittest.main()
