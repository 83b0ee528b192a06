"""Chains: the shortest ones, and all of them in their order."""

from backlinks.checks import are_integers, is_integer, require_number
from backlinks.errors import InvalidChain, InvalidEntry
from backlinks.links import require_log


def is_chain(links, value):
    """Returns whether any value is a chain of the log."""
    require_log(links)
    return leads_down(links, value)


def shortest_chain(links, start, end):
    """Returns the shortest chain from start to end."""
    require_span(links, start, end)
    return first_chain(links, start, end)


def lies_on_every(links, start, end, entry):
    """Returns whether every chain from start to end contains the entry."""
    require_span(links, start, end)
    require_entry(entry, len(links) - 1)
    return entry in first_chain(links, start, end)


def avoiding_chain(links, start, end, entry):
    """Returns a chain from start to end that does not contain the entry, or None."""
    require_span(links, start, end)
    require_entry(entry, len(links) - 1)
    # What the shortest chain contains no chain avoids, so no other one needs to be tried.
    chain = first_chain(links, start, end)
    return None if entry in chain else chain


def count_chains(links, start, end):
    """Returns the number of chains from start to end."""
    require_span(links, start, end)
    return _counts_to(links, start, end)[start]


def nth_chain(links, start, end, number):
    """Returns the chain with a number among those from start to end."""
    require_span(links, start, end)
    counts = _counts_to(links, start, end)
    require_number(number, counts[start])
    chain = [start]
    left = number
    while chain[-1] > end:
        entry = chain[-1]
        by_link = _count_by_link(links, counts, entry)
        if left < by_link:
            chain.append(links[entry])
        else:
            left = left - by_link
            chain.append(entry - 1)
    return chain


def chain_number(links, chain):
    """Returns the number of a chain among those with the same start and end."""
    require_log(links)
    if not leads_down(links, chain):
        raise InvalidChain("this is not a chain of the log")
    counts = _counts_to(links, chain[0], chain[-1])
    number = 0
    for entry, below in zip(chain, chain[1:]):
        if below == entry - 1:
            number = number + _count_by_link(links, counts, entry)
    return number


def walk_chains(links, start, end):
    """Yields all chains from start to end in ascending order, each found when it is asked for."""
    require_span(links, start, end)
    kept = list(links)
    chain = first_chain(kept, start, end)
    while chain is not None:
        # The caller may change what it gets, and the next chain is found from this one.
        yield list(chain)
        chain = _chain_after(kept, chain)


def first_chain(links, start, end):
    """Returns the first chain in ascending order, which is also the shortest one."""
    chain = [start]
    while chain[-1] > end:
        entry = chain[-1]
        chain.append(links[entry] if links[entry] >= end else entry - 1)
    return chain


def leads_down(links, value):
    """Returns whether any value is a chain of what is known to be a log."""
    if not isinstance(value, list) or len(value) == 0 or not are_integers(value):
        return False
    if not 0 <= value[0] < len(links):
        return False
    for entry, below in zip(value, value[1:]):
        # Entry 0 has no link, though its item in the log is 0.
        if entry == 0 or (below != entry - 1 and below != links[entry]):
            return False
    return True


def require_entry(value, most):
    """Raises InvalidEntry if any value is not an integer from 0 to most."""
    if not is_integer(value, 0, most):
        raise InvalidEntry(f"this is not an entry from 0 to {most}")


def require_span(links, start, end):
    """Raises an error if any values do not fit: a log, and two of its entries, the end not greater than the start."""
    require_log(links)
    require_ends(start, end, len(links) - 1)


def require_ends(start, end, most):
    """Raises InvalidEntry if any values are not entries up to the greatest one, the end not greater than the start."""
    require_entry(start, most)
    require_entry(end, start)


def _chain_after(links, chain):
    """Returns the next chain in ascending order with the same start and end, or None."""
    for at in range(len(chain) - 2, -1, -1):
        step = chain[at] - 1
        if chain[at + 1] != step:
            return chain[:at + 1] + first_chain(links, step, chain[-1])
    return None


def _counts_to(links, start, end):
    """Returns a dict from each entry from end to start to the number of chains from it to the end."""
    counts = {end: 1}
    for entry in range(end + 1, start + 1):
        counts[entry] = _count_by_link(links, counts, entry) + counts[entry - 1]
    return counts


def _count_by_link(links, counts, entry):
    """Returns how many chains from an entry go on by its link, but not by the step.

    The counts have no item for an entry below the end.
    """
    # A link to the entry just before gives the same list as the step, and it counts once.
    return 0 if links[entry] == entry - 1 else counts.get(links[entry], 0)
