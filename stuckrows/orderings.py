"""Orders of keys: which keys are less than which."""


def all_less(orders):
    """A dict of True with all pairs of which the first is less, told directly or by way of others."""
    if not orders:
        return {}
    less = {pair: True for pair in orders}
    names = sorted({name for pair in orders for name in pair})
    for middle in names:
        lows = [low for low in names if (low, middle) in less]
        highs = [high for high in names if (middle, high) in less]
        for low in lows:
            for high in highs:
                less[low, high] = True
    return less


def can_be_fulfilled(orders):
    """Whether orders tell of no name that it is less than itself."""
    left = list(orders)
    while left:
        highs = {high: True for _, high in left}
        # What is not greater than anything is in no circle.
        others = [pair for pair in left if pair[0] in highs]
        if len(others) == len(left):
            return False
        left = others
    return True
