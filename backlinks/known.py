"""Known links: their completions, and the entries that are sure for the chains of all of these."""

from backlinks.chains import require_ends, require_entry
from backlinks.checks import is_integer, require_number
from backlinks.errors import Crossing, Different, InvalidKnown
from backlinks.links import crossing_in, require_log, require_size
from backlinks.openings import links_with_number, number_of_links
from backlinks.parts import KnownOpenings, Parts


def are_known(size, value):
    """Returns whether any value is known links of this size, whether they cross or not."""
    require_size(size)
    return _have_form(size, value)


def known_crossing(size, known):
    """Returns the least tuple of two entries whose known links cross, or None."""
    require_size(size)
    _require_form(size, known)
    return _least_crossing(size, known)


def count_completions(size, known):
    """Returns the number of completions."""
    _require_completable(size, known)
    return Parts(size, known).counts[size]


def nth_completion(size, known, number):
    """Returns the completion with a number."""
    _require_completable(size, known)
    openings = KnownOpenings(size, known)
    require_number(number, openings.parts.counts[size])
    return links_with_number(openings, size, number)


def completion_number(links, known):
    """Returns the number of a log among the completions of the known links."""
    require_log(links)
    _require_completable(len(links), known)
    if not all([links[entry] == known[entry] for entry in known]):
        raise Different("the log does not have these links")
    return number_of_links(KnownOpenings(len(links), known), links)


def sure_entries(size, known, start, end):
    """Returns the ascending list of the entries that are sure for start and end."""
    _require_span(size, known, start, end)
    targets = _lowest_targets(size, known, start, end)
    sure = []
    lowest = start
    for entry in range(start, end - 1, -1):
        # A greater entry with a less target could pass over this one.
        if entry <= lowest:
            sure.append(entry)
        lowest = min(lowest, targets.get(entry, lowest))
    return sure[::-1]


def skipping_log(size, known, start, end, entry):
    """Returns a completion in which some chain from start to end does not contain the entry, or None."""
    _require_span(size, known, start, end)
    require_entry(entry, size - 1)
    links = _with_steps(size, known)
    if not end <= entry <= start:
        return links
    targets = _lowest_targets(size, known, start, end)
    for above in range(entry + 1, start + 1):
        if targets.get(above, entry) < entry:
            links[above] = targets[above]
            return links
    return None


def _have_form(size, value):
    """Returns whether any value is known links of what is known to be a size."""
    if not isinstance(value, dict):
        return False
    if not all([is_integer(entry, 1, size - 1) for entry in value]):
        return False
    return all([is_integer(value[entry], 0, entry - 1) for entry in value])


def _require_form(size, known):
    """Raises InvalidKnown if any value is not known links of what is known to be a size."""
    if not _have_form(size, known):
        raise InvalidKnown("these are not known links of this size")


def _require_completable(size, known):
    """Raises an error if any values are not a size and known links of it that do not cross."""
    pair = known_crossing(size, known)
    if pair is not None:
        raise Crossing(pair[0], pair[1])


def _require_span(size, known, start, end):
    """Raises an error if any values do not fit: a size, known links, and a start and an end not greater."""
    _require_completable(size, known)
    require_ends(start, end, size - 1)


def _with_steps(size, known):
    """Returns the links of all entries, those that are not known as links to the entry just before."""
    return [0] + [known.get(entry, entry - 1) for entry in range(1, size)]


def _least_crossing(size, known):
    """Returns the least tuple of two entries whose known links cross, or None."""
    # A link to the entry just before crosses no other link.
    return crossing_in(_with_steps(size, known))


def _lowest_targets(size, known, start, end):
    """Returns a dict from the entries behind the end, up to start, to the least target from the end on of each.

    It is the target that the entry has, or the least one that it may get beside the known links. An entry that is known
    to link below the end is left out.
    """
    bases = _bases(size, known)
    targets = {}
    least = end
    for entry in range(end + 1, start + 1):
        if entry not in known:
            targets[entry] = max(least, bases[entry])
        elif known[entry] >= end:
            targets[entry] = known[entry]
        else:
            # It passes over the end, and over all else before it that is not below its target.
            least = entry
    return targets


def _bases(size, known):
    """Returns for each entry the target of the least known entry that passes over it, or 0."""
    bases = [0] * size
    for above in sorted(known, reverse=True):
        base = known[above]
        bases[base + 1:above] = [base] * (above - base - 1)
    return bases
