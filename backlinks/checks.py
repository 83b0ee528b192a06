"""The checks of integers that all parts of the package share."""

from backlinks.errors import InvalidNumber


def is_integer(value, least, most):
    """Returns whether any value is an integer from least to most."""
    return isinstance(value, int) and not isinstance(value, bool) and least <= value <= most


def require_number(value, many):
    """Raises InvalidNumber if any value is not an integer from 0 to many minus 1."""
    if not is_integer(value, 0, many - 1):
        raise InvalidNumber("nothing has this number")


def are_integers(values):
    """Returns whether all of any values are integers."""
    # The class tells it of nearly all, and is quickly asked; what is left may still be of a class below int.
    others = [value for value in values if type(value) is not int]
    return all([isinstance(value, int) and not isinstance(value, bool) for value in others])
