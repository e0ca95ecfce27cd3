"""What kinds of numbers there are among any values."""

MOST_TIMES = 10 ** 30


def is_whole(value):
    """Whether any value is an integer."""
    # True and False are ints for Python, but no integers here.
    return isinstance(value, int) and not isinstance(value, bool)


def is_from(value, least, most):
    """Whether any value is an integer from least to most."""
    return is_whole(value) and least <= value <= most
