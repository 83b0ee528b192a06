"""Logs, crossing entries and allowed targets."""

from backlinks.checks import is_integer
from backlinks.errors import Different, InvalidLog, InvalidSize

MOST_ENTRIES = 150


def is_log(value):
    """Returns whether any value is a log."""
    return _has_form(value) and _targets_after(value) is not None


def crossing_in(value):
    """Returns the least tuple of two entries that cross, or None."""
    if not _has_form(value):
        raise InvalidLog("this is not a list of links to earlier entries")
    for entry in range(1, len(value)):
        for other in range(entry + 1, len(value)):
            if value[entry] < value[other] < entry:
                return (entry, other)
    return None


def allowed_targets(links):
    """Returns the ascending list of the targets that a further entry may have."""
    require_log(links)
    return _targets_after(links)


def require_log(value):
    """Raises InvalidLog if any value is not a log."""
    if not is_log(value):
        raise InvalidLog("this is not a log")


def require_one_size(logs):
    """Raises an error if there is nothing, if one of any values is not a log, or if their sizes differ."""
    if len(logs) == 0:
        raise InvalidLog("there is no log")
    for links in logs:
        require_log(links)
    for links in logs:
        if len(links) != len(logs[0]):
            raise Different("the logs do not have the same size")


def require_size(value):
    """Raises InvalidSize if any value is not the size of a log."""
    if not is_integer(value, 1, MOST_ENTRIES):
        raise InvalidSize(f"this is not a size from 1 to {MOST_ENTRIES}")


def crossed_by(links, entry, target):
    """Returns the ascending list of the entries that an entry would cross if it had this target.

    The list has the form of a log, and the entry may be the next one.
    """
    below = [other for other in range(target + 1, entry) if links[other] < target]
    return below + [other for other in range(entry + 1, len(links)) if target < links[other] < entry]


def _has_form(value):
    """Returns whether any value is a list with the form of a log, whether links cross or not."""
    if not isinstance(value, list) or not 1 <= len(value) <= MOST_ENTRIES:
        return False
    # Entry 0 has no link, but its item is 0 as if it had one.
    return all([is_integer(link, 0, max(0, entry - 1)) for entry, link in enumerate(value)])


def _targets_after(links):
    """Returns the ascending targets that a further entry may have, or None if two entries cross.

    The list has the form of a log.
    """
    targets = [0]
    for entry in range(1, len(links)):
        # The link closes the entries that it passes over: a later link to one of them would cross it.
        while targets[-1] > links[entry]:
            targets.pop()
        if targets[-1] != links[entry]:
            return None
        targets.append(entry)
    return targets
