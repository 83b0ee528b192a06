"""Changes: leading from one log to another one, link by link."""

from backlinks.checks import is_integer
from backlinks.errors import InvalidChange
from backlinks.links import crossed_by, require_log, require_one_size


def after_changes(links, *changes):
    """Returns the log after these changes, performed in this order."""
    require_log(links)
    changed = list(links)
    for index, change in enumerate(changes):
        if not _is_change(len(links), change):
            raise InvalidChange(index)
        entry, target = change
        changed[entry] = target
        if crossed_by(changed, entry, target):
            raise InvalidChange(index)
    return changed


def changes_between(links, other):
    """Returns a direct list of changes that leads from the first log to the second one."""
    require_one_size([links, other])
    entries = range(1, len(links))
    # Raised links pass over less and come first: the least entry first, as it may pass over the new target of a
    # greater one. Lowered links pass over more: the greatest entry first, as a smaller one may come to pass over the
    # old target of a greater one.
    raised = [(entry, other[entry]) for entry in entries if other[entry] > links[entry]]
    lowered = [(entry, other[entry]) for entry in entries if other[entry] < links[entry]]
    return raised + lowered[::-1]


def is_direct(links, other, value):
    """Returns whether any value is a direct list of changes that leads from the first log to the second one."""
    require_one_size([links, other])
    if not isinstance(value, list):
        return False
    changed = list(links)
    for change in value:
        if not _is_change(len(links), change):
            return False
        entry, target = change
        # An entry that has its new link already does not differ, or occurs for the second time.
        if changed[entry] == other[entry] or target != other[entry]:
            return False
        changed[entry] = target
        if crossed_by(changed, entry, target):
            return False
    return changed == other


def orders_between(links, other):
    """Returns the ascending list of the tuples (w, u) of entries such that w must be changed before u."""
    require_one_size([links, other])
    # Two entries of one log do not cross, so what crosses here are entries with different links.
    return [(before, entry) for before in range(1, len(links)) if links[before] != other[before]
            for entry in crossed_by(other, before, links[before])]


def _is_change(size, value):
    """Returns whether any value is a change for a log of this size."""
    if not isinstance(value, tuple) or len(value) != 2:
        return False
    return is_integer(value[0], 1, size - 1) and is_integer(value[1], 0, value[0] - 1)
