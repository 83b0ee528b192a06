"""Meetings: entries that several chains have in common."""

from backlinks.chains import is_chain, shortest_chain
from backlinks.errors import InvalidChain
from backlinks.links import require_log


def meeting_of(links, *chains):
    """Returns the greatest entry that all chains contain, or None."""
    require_log(links)
    if len(chains) == 0:
        raise InvalidChain("there is no chain")
    for chain in chains:
        if not is_chain(links, chain):
            raise InvalidChain("one of these is not a chain of the log")
    return _greatest_common(chains)


def sure_meeting(links, start, end, other_start, other_end):
    """Returns the greatest entry that all chains of both parts contain, or None."""
    # What all chains contain is what the shortest one contains.
    chain = shortest_chain(links, start, end)
    other = shortest_chain(links, other_start, other_end)
    return _greatest_common([chain, other])


def apart_chains(links, start, end, other_start, other_end):
    """Returns a tuple of two chains, one for each part, that have no common entry, or None."""
    chain = shortest_chain(links, start, end)
    other = shortest_chain(links, other_start, other_end)
    # Where the two shortest chains have a common entry, so have each two others.
    return (chain, other) if _greatest_common([chain, other]) is None else None


def _greatest_common(chains):
    """Returns the greatest entry that all of one or more chains contain, or None."""
    common = [entry for entry in chains[0] if all([entry in chain for chain in chains])]
    return max(common, default=None)
