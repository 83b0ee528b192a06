"""Ruler logs: regular logs of which great entries are asked for, by their digits."""

from backlinks.chains import require_ends
from backlinks.checks import is_integer
from backlinks.errors import InvalidBase, InvalidEntry

MOST_BASE = 36
MOST_RULER_ENTRY = 10 ** 30


def ruler_link(base, entry):
    """Returns the link of an entry of the ruler log with this base."""
    _require_base(base)
    if not is_integer(entry, 1, MOST_RULER_ENTRY):
        raise InvalidEntry("this is not an entry with a link")
    return entry - _greatest_power(base, entry, 1)


def ruler_walk(base, start, end):
    """Yields the entries of the shortest chain from start to end, one after another."""
    _require_base(base)
    require_ends(start, end, MOST_RULER_ENTRY)
    entry = start
    power = 1
    yield entry
    while entry > end:
        # The power before divides the entry still, so the search need not begin with 1.
        power = _greatest_power(base, entry, power)
        if entry - power >= end:
            entry = entry - power
        else:
            entry = entry - 1
            power = 1
        yield entry


def ruler_length(base, start, end):
    """Returns the number of steps and links of the shortest chain from start to end."""
    _require_base(base)
    require_ends(start, end, MOST_RULER_ENTRY)
    length = 0
    entry = start
    power = 1
    # The links lower the digits of the entry to 0, from the last one on, as far as the end allows.
    while entry - end >= power:
        moves = min(entry // power % base, (entry - end) // power)
        entry = entry - moves * power
        length = length + moves
        power = power * base
    return length + _length_from_multiple(base, entry - end)


def ruler_meeting(base, start, end, other_start, other_end):
    """Returns the greatest entry that every chain of both parts contains, or None."""
    _require_base(base)
    require_ends(start, end, MOST_RULER_ENTRY)
    require_ends(other_start, other_end, MOST_RULER_ENTRY)
    if start > other_start:
        return _meeting_below(base, other_start, other_end, start, end)
    return _meeting_below(base, start, end, other_start, other_end)


def _greatest_power(base, entry, power):
    """Returns the greatest power of the base that divides an entry from 1 on, where the given one does."""
    while entry % (power * base) == 0:
        power = power * base
    return power


def _length_from_multiple(base, distance):
    """Returns the length of the shortest chain from a multiple of a power to the entry at a distance less than it."""
    length = 0
    place = 0
    while distance > 0:
        digit = distance % base
        if digit > 0:
            # A step makes all lower digits the greatest ones, and so many links lower each of them to 0. The last of
            # as many links as this digit tells is one less, as the step has lowered the digit by 1, too.
            length = length + (base - 1) * place + digit
        distance = distance // base
        place = place + 1
    return length


def _meeting_below(base, start, end, other_start, other_end):
    """Returns the greatest entry that every chain of both parts contains, or None, if the first start is not greater.

    It is the greatest entry up to start that the shortest chain from the other start contains, if this is not less than
    the end: what passes over start leads to an entry that no chain from start to a lower one avoids.
    """
    if other_end > start:
        return None
    meeting = start
    power = 1
    while power <= other_start:
        above = (start + power - 1) // power * power
        # The link of a multiple of a greater power is looked at with that power.
        if start < above <= other_start and above - power >= other_end and above % (power * base) != 0:
            meeting = above - power
        power = power * base
    return meeting if meeting >= end else None


def _require_base(value):
    """Raises InvalidBase if any value is not a base."""
    if not is_integer(value, 2, MOST_BASE):
        raise InvalidBase(f"this is not a base from 2 to {MOST_BASE}")
