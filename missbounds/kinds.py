"""The kinds of values that are asked for everywhere (point 2)."""


def is_whole(value):
    """Return whether any value is an integer; True and False are none."""
    return isinstance(value, int) and not isinstance(value, bool)


def is_between(value, least, most):
    """Return whether any value is an integer from `least` to `most`."""
    return is_whole(value) and least <= value <= most


def is_truth(value):
    """Return whether any value is True or False."""
    return isinstance(value, bool)


def is_function(value):
    """Return whether what is passed where a function is asked for is one."""
    # Nothing else is passed there, and there is no kind for all that can be called.
    return value is not None and not isinstance(value, (int, str, tuple, list, dict))


def is_tuple(value, least, most):
    """Return whether any value is a tuple of at least `least` and at most `most` elements."""
    return isinstance(value, tuple) and least <= len(value) <= most
