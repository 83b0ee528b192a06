"""Meetings: entries that several chains have in common."""

from backlinks.chains import first_chain, leads_down, require_ends, require_span
from backlinks.errors import InvalidChain
from backlinks.links import require_log


def meeting_of(links, *chains):
    """Returns the greatest entry that all chains contain, or None."""
    require_log(links)
    if len(chains) == 0:
        raise InvalidChain("there is no chain")
    for chain in chains:
        if not leads_down(links, chain):
            raise InvalidChain("one of these is not a chain of the log")
    common = chains[0][::-1]
    for chain in chains[1:]:
        common = sorted(set(common) & set(chain))
    return common[-1] if len(common) > 0 else None


def sure_meeting(links, start, end, other_start, other_end):
    """Returns the greatest entry that all chains of both parts contain, or None."""
    _require_two_spans(links, start, end, other_start, other_end)
    return _sure_meeting(links, start, end, other_start, other_end)


def apart_chains(links, start, end, other_start, other_end):
    """Returns a tuple of two chains, one for each part, that have no common entry, or None."""
    _require_two_spans(links, start, end, other_start, other_end)
    # Where the two shortest chains have a common entry, so have each two others.
    if _sure_meeting(links, start, end, other_start, other_end) is not None:
        return None
    return first_chain(links, start, end), first_chain(links, other_start, other_end)


def _require_two_spans(links, start, end, other_start, other_end):
    """Raises an error if any values do not fit: a log, and twice a start and an end that is not greater."""
    require_span(links, start, end)
    require_ends(other_start, other_end, len(links) - 1)


def _sure_meeting(links, start, end, other_start, other_end):
    """Returns the greatest entry that all chains of both parts contain, or None."""
    if start > other_start:
        return _meeting_below(links, other_start, other_end, start, end)
    return _meeting_below(links, start, end, other_start, other_end)


def _meeting_below(links, start, end, other_start, other_end):
    """Returns the greatest entry that all chains of both parts contain, or None, if the first start is not greater."""
    entry = other_start
    while start < entry and other_end < entry:
        entry = links[entry] if links[entry] >= other_end else entry - 1
    # What passes over start here leads to an entry that no chain from start to a lower one avoids.
    return entry if end <= entry <= start else None
