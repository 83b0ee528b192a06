"""Known links: their completions, and the entries that are sure for the chains of all of these."""

from backlinks.chains import require_entry
from backlinks.checks import is_integer, require_number
from backlinks.errors import Crossing, Different, InvalidKnown
from backlinks.links import crossing_in, require_log, require_size
from backlinks.openings import links_with_number, number_of_links
from backlinks.parts import KnownOpenings, Parts


def are_known(size, value):
    """Returns whether any value is known links of this size, whether they cross or not."""
    require_size(size)
    return _have_form(size, value)


def known_crossing(size, known):
    """Returns the least tuple of two entries whose known links cross, or None."""
    require_size(size)
    _require_form(size, known)
    return _least_crossing(size, known)


def count_completions(size, known):
    """Returns the number of completions."""
    _require_completable(size, known)
    return Parts(size, known).counts[size]


def nth_completion(size, known, number):
    """Returns the completion with a number."""
    _require_completable(size, known)
    openings = KnownOpenings(size, known)
    require_number(number, openings.parts.counts[size])
    return links_with_number(openings, size, number)


def completion_number(links, known):
    """Returns the number of a log among the completions of the known links."""
    require_log(links)
    _require_completable(len(links), known)
    if not all([links[entry] == known[entry] for entry in known]):
        raise Different("the log does not have these links")
    return number_of_links(KnownOpenings(len(links), known), links)


def sure_entries(size, known, start, end):
    """Returns the ascending list of the entries that are sure for start and end."""
    _require_span(size, known, start, end)
    passed = {}
    for entry in range(end + 1, start + 1):
        target = _lowest_target(known, entry, end)
        if target is not None:
            for between in range(target + 1, entry):
                passed[between] = True
    return [entry for entry in range(end, start + 1) if entry not in passed]


def skipping_log(size, known, start, end, entry):
    """Returns a completion in which some chain from start to end does not contain the entry, or None."""
    _require_span(size, known, start, end)
    require_entry(entry, size - 1)
    links = _with_steps(size, known)
    if not end <= entry <= start:
        return links
    for above in range(entry + 1, start + 1):
        target = _lowest_target(known, above, end)
        if target is not None and target < entry:
            links[above] = target
            return links
    return None


def _have_form(size, value):
    """Returns whether any value is known links of what is known to be a size."""
    if not isinstance(value, dict):
        return False
    if not all([is_integer(entry, 1, size - 1) for entry in value]):
        return False
    return all([is_integer(value[entry], 0, entry - 1) for entry in value])


def _require_form(size, known):
    """Raises InvalidKnown if any value is not known links of what is known to be a size."""
    if not _have_form(size, known):
        raise InvalidKnown("these are not known links of this size")


def _require_completable(size, known):
    """Raises an error if any values are not a size and known links of it that do not cross."""
    pair = known_crossing(size, known)
    if pair is not None:
        raise Crossing(pair[0], pair[1])


def _require_span(size, known, start, end):
    """Raises an error if any values do not fit: a size, known links, and a start and an end not greater."""
    _require_completable(size, known)
    require_entry(start, size - 1)
    require_entry(end, start)


def _with_steps(size, known):
    """Returns the links of all entries, those that are not known as links to the entry just before."""
    return [0] + [known.get(entry, entry - 1) for entry in range(1, size)]


def _least_crossing(size, known):
    """Returns the least tuple of two entries whose known links cross, or None."""
    # A link to the entry just before crosses no other link.
    return crossing_in(_with_steps(size, known))


def _lowest_target(known, entry, end):
    """Returns the least target from the end on that the entry has or may get beside the known links, or None."""
    for target in range(end, entry):
        if _may_link(known, entry, target):
            return target
    return None


def _may_link(known, entry, target):
    """Returns whether the known links with this one are known links without a crossing."""
    if known.get(entry, target) != target:
        return False
    for other in known:
        if known[other] < target < other < entry or target < known[other] < entry < other:
            return False
    return True
