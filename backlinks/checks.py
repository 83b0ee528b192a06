"""The checks of integers that all parts of the package share."""

from backlinks.errors import InvalidNumber


def is_integer(value, least, most):
    """Returns whether any value is an integer from least to most."""
    return isinstance(value, int) and not isinstance(value, bool) and least <= value <= most


def require_number(value, many):
    """Raises InvalidNumber if any value is not an integer from 0 to many minus 1."""
    if not is_integer(value, 0, many - 1):
        raise InvalidNumber("nothing has this number")


def are_integers(values):
    """Returns whether all of any values are integers."""
    # True and False are all that is an int and a bool, and it takes less time to look for them by name.
    others = [value for value in values if not isinstance(value, int) or value is True or value is False]
    return len(others) == 0
