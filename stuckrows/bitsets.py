"""Sets of small numbers as integers, with one bit for each number."""


def bits(members):
    """The ascending list of the numbers in a set."""
    found = []
    while members:
        lowest = members & -members
        found.append(lowest.bit_length() - 1)
        members ^= lowest
    return found
