"""What counts as an integer among values of any kind."""


def is_integer(value):
    """Tell whether the value is an integer; True and False are none."""
    return isinstance(value, int) and not isinstance(value, bool)


def is_from_to(value, least, most):
    """Tell whether the value is an integer from the least to the most, both included."""
    return is_integer(value) and least <= value <= most
