"""Desks: logs that are worked on by commands."""

from backlinks.chains import count_chains, shortest_chain
from backlinks.errors import InvalidCommand, InvalidText
from backlinks.logs import Log
from backlinks.meetings import sure_meeting
from backlinks.texts import number_in, show_chain, show_log

NUMBER_DIGITS = 9


def _append(log, target):
    """Adds an entry, and returns its number."""
    return str(log.add_entry(target))


def _cut(log, count):
    """Removes the newest entries."""
    log.cut_to(count)
    return "ok"


def _undo(log):
    """Reverts the last change."""
    log.undo_last()
    return "ok"


def _show_links(log):
    """Returns the text of the log."""
    return show_log(log.all_links)


def _show_size(log):
    """Returns the size."""
    return str(log.entry_count)


def _show_allowed(log):
    """Returns the allowed targets."""
    return " ".join([str(target) for target in log.allowed_now])


def _show_shortest(log, start, end):
    """Returns the text of the shortest chain."""
    links = log.all_links
    return show_chain(links, shortest_chain(links, start, end))


def _show_count(log, start, end):
    """Returns the number of chains."""
    return str(count_chains(log.all_links, start, end))


def _show_meeting(log, start, end, other_start, other_end):
    """Returns the sure meeting, or none."""
    entry = sure_meeting(log.all_links, start, end, other_start, other_end)
    return "none" if entry is None else str(entry)


# What each first word but log asks for, and how many numbers stand behind it.
ACTIONS = {
    "append": _append,
    "cut": _cut,
    "undo": _undo,
    "links": _show_links,
    "size": _show_size,
    "allowed": _show_allowed,
    "chain": _show_shortest,
    "chains": _show_count,
    "meet": _show_meeting,
}
NUMBERS = {"append": 1, "cut": 1, "undo": 0, "links": 0, "size": 0, "allowed": 0, "chain": 2, "chains": 2, "meet": 4}


class Desk:
    """A log that is worked on by commands."""

    def __init__(self):
        self._log = Log()

    def execute(self, row):
        """Runs one command, and returns its result, a text."""
        if not isinstance(row, str):
            raise InvalidCommand("this is not a text")
        if row.startswith("log "):
            return self._replace(row[4:])
        words = row.split(" ")
        numbers = [number_in(word, NUMBER_DIGITS) for word in words[1:]]
        if NUMBERS.get(words[0]) != len(numbers) or None in numbers:
            raise InvalidCommand("this is not a command")
        action = ACTIONS[words[0]]
        return action(self._log, *numbers)

    def _replace(self, text):
        """Takes a new object with the log of a text in place of the old one."""
        try:
            self._log = Log.read_from(text)
        except InvalidText:
            raise InvalidCommand("this is not the text of a log") from None
        return "ok"
