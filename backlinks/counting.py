"""Counting: the number of logs of a size, and their numbers in ascending order."""

from math import comb

from backlinks.checks import require_number
from backlinks.links import require_log, require_size
from backlinks.openings import Openings, links_with_number, number_of_links


def count_logs(size):
    """Returns the number of logs of a size, a Catalan number."""
    require_size(size)
    return comb(2 * size - 2, size - 1) // size


def nth_log(size, number):
    """Returns the log of a size with a number."""
    require_number(number, count_logs(size))
    return links_with_number(Openings(size), size, number)


def log_number(links):
    """Returns the number of a log among those of its size."""
    require_log(links)
    return number_of_links(Openings(len(links)), links)
