"""Small questions about plain values that several modules ask."""

LONGEST_NAME = 12


def is_name(value):
    """Whether a value is a string of 1 to 12 letters from a to z."""
    if not isinstance(value, str) or len(value) > LONGEST_NAME:
        return False
    return value.isascii() and value.isalpha() and value.islower()


def are_names(values):
    """Whether all of some values are names."""
    for value in values:
        if not is_name(value):
            return False
    return True


def is_integer(value):
    """Whether a value is an integer, where bools are none."""
    return isinstance(value, int) and not isinstance(value, bool)


def is_index(value, size):
    """Whether a value is a place in a list of this size."""
    return is_integer(value) and 0 <= value < size


def is_tuple(value, least, most):
    """Whether a value is a tuple with so many entries."""
    return isinstance(value, tuple) and least <= len(value) <= most


def are_different_names(value, least, most):
    """Whether a value is a tuple of so many names, none of them twice."""
    return is_tuple(value, least, most) and are_names(value) and len(set(value)) == len(value)


def is_item(value):
    """Whether a value is a fixed item or a row: a name, or a tuple of a name and a key."""
    if is_name(value):
        return True
    return is_tuple(value, 2, 2) and is_name(value[0]) and is_integer(value[1])
