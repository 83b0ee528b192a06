"""Logs, crossing entries and allowed targets."""

from backlinks.checks import are_integers, is_integer
from backlinks.errors import Different, InvalidLog, InvalidSize

MOST_ENTRIES = 150


def is_log(value):
    """Returns whether any value is a log."""
    # The last check finds links that are too great, too.
    return _are_links(value) and min(value) == 0 and _cross_nowhere(value)


def crossing_in(value):
    """Returns the least tuple of two entries that cross, or None."""
    if not _has_form(value):
        raise InvalidLog("this is not a list of links to earlier entries")
    if _cross_nowhere(value):
        return None
    return min([(entry, other) for entry in range(1, len(value)) for other in range(entry + 1, len(value))
                if value[entry] < value[other] < entry])


def allowed_targets(links):
    """Returns the ascending list of the targets that a further entry may have."""
    require_log(links)
    # What no link passes over is what the links from the newest entry down lead to.
    targets = [len(links) - 1]
    while targets[-1] > 0:
        targets.append(links[targets[-1]])
    return targets[::-1]


def require_log(value):
    """Raises InvalidLog if any value is not a log."""
    if not is_log(value):
        raise InvalidLog("this is not a log")


def require_one_size(logs):
    """Raises an error if there is nothing, if one of any values is not a log, or if their sizes differ."""
    if len(logs) == 0:
        raise InvalidLog("there is no log")
    for links in logs:
        require_log(links)
    for links in logs:
        if len(links) != len(logs[0]):
            raise Different("the logs do not have the same size")


def require_size(value):
    """Raises InvalidSize if any value is not the size of a log."""
    if not is_integer(value, 1, MOST_ENTRIES):
        raise InvalidSize(f"this is not a size from 1 to {MOST_ENTRIES}")


def crossed_by(links, entry, target):
    """Returns the ascending list of the entries that an entry would cross if it had this target.

    The list has the form of a log, and the entry may be the next one.
    """
    below = [other for other in range(target + 1, entry) if links[other] < target]
    return below + [other for other in range(entry + 1, len(links)) if target < links[other] < entry]


def _are_links(value):
    """Returns whether any value is a list of integers, as many as a log may have, and the first one 0."""
    if not isinstance(value, list) or not 1 <= len(value) <= MOST_ENTRIES:
        return False
    return are_integers(value) and value[0] == 0


def _has_form(value):
    """Returns whether any value is a list with the form of a log, whether links cross or not."""
    return _are_links(value) and all([0 <= link < entry for entry, link in enumerate(value[1:], 1)])


def _cross_nowhere(links):
    """Returns whether each link leads to an earlier entry that no link before it passes over.

    No link is less than 0.
    """
    # The links from the entry just before down lead to exactly these entries. What a search leaves behind is never come
    # by again, for the link that is found passes over it.
    for target, link in enumerate(links[1:]):
        while target > link:
            target = links[target]
        if target != link:
            return False
    return True
