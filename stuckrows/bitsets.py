"""Sets of small numbers as integers: bit n is set if n is in the set."""


def bits(members):
    """The ascending list of the numbers in a set."""
    found = []
    while members:
        low = members & -members
        found.append(low.bit_length() - 1)
        members ^= low
    return found


def single_bits(members):
    """The ascending list of the sets of one number each that are in a set."""
    found = []
    while members:
        low = members & -members
        found.append(low)
        members ^= low
    return found
