"""Small questions about plain values that several modules ask."""

LONGEST_NAME = 12


def is_name(value):
    """Whether a value is a string of 1 to 12 letters from a to z."""
    if not isinstance(value, str) or len(value) > LONGEST_NAME:
        return False
    return value.isascii() and value.isalpha() and value.islower()


def are_strings(values):
    """Whether all of some values are strings."""
    for value in values:
        if not isinstance(value, str):
            return False
    return True


def are_letters(words):
    """Whether all of some strings are names."""
    letters = "".join(words)
    # If none is empty, none of short ones can be too long.
    if not all(words) or len(letters) >= len(words) + LONGEST_NAME and max(map(len, words)) > LONGEST_NAME:
        return False
    return not letters or letters.isascii() and letters.isalpha() and letters.islower()


def are_names(values):
    """Whether all values in a tuple or a list are names."""
    return are_strings(values) and are_letters(values)


def is_integer(value):
    """Whether a value is an integer, where bools are none."""
    return isinstance(value, int) and not isinstance(value, bool)


def is_index(value, size):
    """Whether a value is a place in a list of this size."""
    return isinstance(value, int) and not isinstance(value, bool) and 0 <= value < size


def is_tuple(value, least, most):
    """Whether a value is a tuple with so many entries."""
    return isinstance(value, tuple) and least <= len(value) <= most


def are_different_names(value, least, most):
    """Whether a value is a tuple of so many names, none of them twice."""
    if not isinstance(value, tuple) or not least <= len(value) <= most:
        return False
    return are_names(value) and (len(value) < 2 or len(set(value)) == len(value))


def is_item(value):
    """Whether a value is a fixed item or a row: a name, or a tuple of a name and a key."""
    if is_name(value):
        return True
    return is_tuple(value, 2, 2) and is_name(value[0]) and is_integer(value[1])
