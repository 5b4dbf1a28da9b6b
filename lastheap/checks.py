"""Whether what is passed is a number, and in a range."""


def is_number(what):
    """`True` and `False` are none."""
    return isinstance(what, int) and not isinstance(what, bool)


def is_from(what, least, most):
    """Whether this is a number from `least` to `most`."""
    return is_number(what) and least <= what <= most


def is_sequence(what):
    return isinstance(what, (list, tuple))
