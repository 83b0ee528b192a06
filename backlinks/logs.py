"""Objects that hold a log, grow it entry by entry, and revert changes."""

from backlinks.chains import shortest_chain
from backlinks.checks import is_integer
from backlinks.errors import Crossing, InvalidSize, InvalidTag, InvalidTarget, NothingToUndo
from backlinks.links import allowed_targets, crossed_by
from backlinks.texts import read_log

MOST_LETTERS = 8


class Log:
    """An object that holds a log."""

    MOST = 150

    def __init__(self, *targets):
        # A list of links is never changed in place, so the lists before need no copies.
        self._links = [0]
        self._links_before = []
        self._links = self._links_with(targets)

    @classmethod
    def read_from(cls, text):
        """Returns an object with the log of a text."""
        targets = read_log(text)[1:]
        return cls(*targets)

    def add_entry(self, target):
        """Adds an entry with this link, and returns its number."""
        return self._grow([target])[0]

    def add_all(self, *targets):
        """Adds an entry for each target, or none if one is refused, and returns the list of their numbers."""
        return self._grow(targets)

    @property
    def entry_count(self):
        """The number of entries."""
        return len(self._links)

    @entry_count.setter
    def entry_count(self, count):
        self._put_links(self._links_up_to(count))

    def cut_to(self, count):
        """Removes the newest entries until the size is this number."""
        self.entry_count = count

    @property
    def newest_entry(self):
        """The greatest entry."""
        return len(self._links) - 1

    @property
    def all_links(self):
        """The log as a new list."""
        return list(self._links)

    @property
    def allowed_now(self):
        """The ascending list of the targets that are allowed for a further entry."""
        return allowed_targets(self._links)

    def undo_last(self):
        """Reverts the last change that was not reverted."""
        if len(self._links_before) == 0:
            raise NothingToUndo("there is no change that was not reverted")
        self._links = self._links_before.pop()

    def walk_down(self):
        """Yields the entries of the shortest chain from the newest entry to entry 0, one after another."""
        links = self._links
        entry = len(links) - 1
        yield entry
        while entry > 0:
            entry = links[entry]
            yield entry

    def __len__(self):
        return len(self._links)

    def __eq__(self, other):
        return isinstance(other, Log) and not isinstance(other, TaggedLog) and self._links == other._links

    def _grow(self, targets):
        """Adds an entry for each target, or none, and returns the list of their numbers."""
        links = self._links_with(targets)
        numbers = list(range(len(self._links), len(links)))
        if len(numbers) > 0:
            self._put_links(links)
        return numbers

    def _links_with(self, targets):
        """Returns the log with a further entry for each target."""
        links = list(self._links)
        for target in targets:
            if len(links) >= self.MOST:
                raise InvalidSize(f"there are {self.MOST} entries already")
            if not is_integer(target, 0, len(links) - 1):
                raise InvalidTarget("this is not an entry of the log")
            crossed = crossed_by(links, len(links), target)
            if len(crossed) > 0:
                raise Crossing(crossed[0], len(links))
            links.append(target)
        return links

    def _links_up_to(self, count):
        """Returns the log without the newest entries, with as many ones as the count tells."""
        if not is_integer(count, 1, len(self._links)):
            raise InvalidSize("this is not a number from 1 to the size")
        return self._links[:count]

    def _put_links(self, links):
        """Replaces the log, and keeps the one before for undo_last."""
        self._links_before.append(self._links)
        self._links = links


class TaggedLog(Log):
    """An object that holds a log with a tag for each entry."""

    def __init__(self, *targets, tag):
        _require_tag(tag)
        super().__init__(*targets)
        self._tags = [tag] * len(self._links)
        # For each log that is kept for undo_last the tags that belong to it.
        self._tags_before = []

    def add_entry(self, target, *, tag="plain"):
        """Adds an entry with this link and a tag, and returns its number."""
        _require_tag(tag)
        numbers = self._grow([target])
        self._put_tags(self._tags + [tag])
        return numbers[0]

    def add_all(self, *targets):
        """Adds an entry with the tag plain for each target, or none, and returns the list of their numbers."""
        numbers = self._grow(targets)
        if len(numbers) > 0:
            self._put_tags(self._tags + ["plain"] * len(numbers))
        return numbers

    @property
    def entry_count(self):
        """The number of entries."""
        return len(self._links)

    @entry_count.setter
    def entry_count(self, count):
        self._put_links(self._links_up_to(count))
        self._put_tags(self._tags[:count])

    @property
    def all_tags(self):
        """The list of the tags of all entries."""
        return list(self._tags)

    def chain_to_tag(self, tag):
        """Returns the shortest chain from the newest entry to the newest one with this tag."""
        tagged = [entry for entry, known in enumerate(self._tags) if known == tag]
        if len(tagged) == 0:
            raise InvalidTag("no entry has this tag")
        return shortest_chain(self._links, self.newest_entry, tagged[-1])

    def undo_last(self):
        """Reverts the last change that was not reverted."""
        super().undo_last()
        self._tags = self._tags_before.pop()

    def __eq__(self, other):
        return isinstance(other, TaggedLog) and self._links == other._links and self._tags == other._tags

    def _put_tags(self, tags):
        """Replaces the tags, and keeps those before for undo_last."""
        self._tags_before.append(self._tags)
        self._tags = tags


def _require_tag(value):
    """Raises InvalidTag if any value is not a tag."""
    if not isinstance(value, str) or not 1 <= len(value) <= MOST_LETTERS:
        raise InvalidTag(f"this is not a text of 1 to {MOST_LETTERS} letters")
    if not all(["a" <= letter <= "z" for letter in value]):
        raise InvalidTag("one of these is not a lowercase letter")
