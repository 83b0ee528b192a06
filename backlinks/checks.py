"""The check of integers that all parts of the package share."""


def is_integer(value, least, most):
    """Returns whether any value is an integer from least to most."""
    return isinstance(value, int) and not isinstance(value, bool) and least <= value <= most
