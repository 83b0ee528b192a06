"""A plain model of the objects of logs.py, and checks that the tests of these objects share."""

import random

from backlinks.errors import Crossing, InvalidSize, InvalidTag, InvalidTarget, NothingToUndo
from tests.plain import EXAMPLE, GREAT, NOT_INTEGERS, ExactCase, all_crossings

NOT_TAGS = [
    None, True, False, 0, 1, GREAT, "", " ", "a ", " a", "a b", "A", "Plain", "plaiN", "TAG", "a1", "1", "1a", "a_b",
    "_", "a-b", "a.", "tag\n", "\n", "\x00", "abcdefghi", "a" * 9, "a" * 10, "a" * 4000, "A" * 8, "\u00e4", "\u00df",
    "\u03b1", "\u0430", "\u00aa", "stra\u00dfe", "\uff41", b"", b"a", b"plain", (), ("a",), ["a"], [], {}, {"a": "a"},
    [["a"]], ("plain", "plain"),
]


class PlainLog:
    """What a log object does, in the plainest way: a list of states, and whole lists for all that is asked."""

    def __init__(self, links, tags=None):
        self.states = [(links, tags)]

    @property
    def links(self):
        return self.states[-1][0]

    @property
    def tags(self):
        return self.states[-1][1]

    def add_all(self, targets, tag="plain"):
        """Returns the numbers of the new entries, or the error of the first target that is refused."""
        links = list(self.links)
        for target in targets:
            if len(links) == 150:
                return InvalidSize, {}
            if type(target) is not int or not 0 <= target < len(links):
                return InvalidTarget, {}
            pairs = all_crossings(links + [target])
            if pairs:
                return Crossing, {"entry": pairs[0][0], "other": pairs[0][1]}
            links.append(target)
        numbers = list(range(len(self.links), len(links)))
        if numbers:
            self.states.append((links, self.tags and self.tags + [tag] * len(numbers)))
        return numbers

    def cut(self, count):
        """Returns None, or the error that it is to raise."""
        if type(count) is not int or not 1 <= count <= len(self.links):
            return InvalidSize, {}
        self.states.append((self.links[:count], self.tags and self.tags[:count]))
        return None

    def undo(self):
        """Returns None, or the error that it is to raise."""
        if len(self.states) == 1:
            return NothingToUndo, {}
        self.states.pop()
        return None

    def walk(self):
        """Returns the entries of the shortest chain from the newest entry to entry 0."""
        chain = [len(self.links) - 1]
        while chain[-1] > 0:
            chain.append(self.links[chain[-1]])
        return chain


def assign_count(log, count):
    """Assigns entry_count, as a call."""
    log.entry_count = count


class GrowingCase(ExactCase):
    """Checks that Log and TaggedLog share."""

    def outcome(self, function, *args, **more):
        """Returns the result of a call, or the class and the fields of the error that it raises."""
        try:
            return function(*args, **more)
        except ValueError as error:
            return type(error), vars(error)

    def is_as(self, log, plain):
        """Fails unless all that the object tells is what the plain model tells."""
        self.same(log.all_links, plain.links)
        self.same(log.entry_count, len(plain.links))
        self.same(len(log), len(plain.links))
        self.same(log.newest_entry, len(plain.links) - 1)
        self.same(log.allowed_now, [target for target in range(len(plain.links))
                                    if not all_crossings(plain.links + [target])])
        self.same(list(log.walk_down()), plain.walk())
        if plain.tags is not None:
            self.same(log.all_tags, plain.tags)

    def does_as(self, log, plain, seed, many):
        """Fails unless many calls without a plan, wrong ones too, do what they do to the plain model."""
        chance = random.Random(seed)
        for _ in range(many):
            size = len(plain.links)
            targets = [chance.choice([0, size - 1, size + chance.randrange(3), chance.randrange(size), plain.links[-1]])
                       for _ in range(chance.randrange(4))]
            count = chance.choice([size, max(1, size - chance.randrange(4)), size + 1, 0, True, None, "1", (1,)])
            action = chance.choice(["add", "add", "add", "all", "all", "cut", "assign", "undo", "undo", "tag"])
            if action == "add":
                target = chance.choice(targets + [size - 1, None, True])
                wanted = plain.add_all([target])
                got = self.outcome(log.add_entry, target)
                self.same(got, wanted[0] if isinstance(wanted, list) else wanted)
            elif action == "all":
                self.same(self.outcome(log.add_all, *targets), plain.add_all(targets))
            elif action == "cut":
                self.same(self.outcome(log.cut_to, count), plain.cut(count))
            elif action == "assign":
                self.same(self.outcome(assign_count, log, count), plain.cut(count))
            elif action == "undo":
                self.same(self.outcome(log.undo_last), plain.undo())
            elif plain.tags is not None:
                tag = chance.choice(["a", "news", "plain", "abcdefgh", "", "A"])
                wanted = (InvalidTag, {}) if tag in ("", "A") else plain.add_all([targets[0] if targets else 0], tag)
                got = self.outcome(log.add_entry, targets[0] if targets else 0, tag=tag)
                self.same(got, wanted[0] if isinstance(wanted, list) else wanted)
            self.same(log.all_links, plain.links)
        self.is_as(log, plain)

    def refuses_wrong_targets(self, log, add):
        """Fails unless the call refuses targets that are none, and changes nothing."""
        before = log.all_links
        for wrong in NOT_INTEGERS + [-1, len(log), len(log) + 1, 150, GREAT, -GREAT]:
            self.refuses(InvalidTarget, add, wrong)
            self.same(log.all_links, before)

    def refuses_wrong_counts(self, log):
        """Fails unless the size can't be made any value that is none, and nothing changes."""
        before = log.all_links
        for wrong in NOT_INTEGERS + [0, -1, len(log) + 1, 150, 151, GREAT, -GREAT]:
            if wrong != len(log) or isinstance(wrong, bool):
                self.refuses(InvalidSize, log.cut_to, wrong)
                self.refuses(InvalidSize, assign_count, log, wrong)
                self.same(log.all_links, before)

    def undoes(self, log, many):
        """Fails unless so many changes can be reverted, and not one more."""
        for _ in range(many):
            self.assertIsNone(log.undo_last())
        before = log.all_links
        for _ in range(2):
            self.refuses(NothingToUndo, log.undo_last)
            self.same(log.all_links, before)

    def refuses_each_kind_of_change(self, log):
        """Fails unless an object with the log EXAMPLE refuses calls of each kind, and has no change more to revert."""
        self.refuses(InvalidTarget, log.add_entry, 7)
        self.crosses((2, 7), log.add_entry, 1)
        self.crosses((2, 8), log.add_all, 6, 1)
        self.refuses(InvalidTarget, log.add_all, 6, 0, 10)
        self.refuses(InvalidSize, log.cut_to, 0)
        self.refuses(InvalidSize, assign_count, log, 8)
        self.same(log.all_links, EXAMPLE)
        self.undoes(log, 0)

    def cannot_be_assigned(self, log, names):
        """Fails unless assigning these properties raises an error and changes nothing."""
        for name in names:
            before = getattr(log, name)
            with self.assertRaises(AttributeError):
                setattr(log, name, before)
            self.same(getattr(log, name), before)

    def gives_new_lists(self, log, names):
        """Fails unless each of these properties gives a new list each time."""
        for name in names:
            first = getattr(log, name)
            kept = list(first)
            first.append("changed")
            first[0] = "changed"
            self.same(getattr(log, name), kept)
            self.assertIsNot(getattr(log, name), getattr(log, name))
