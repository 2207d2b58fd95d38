"""Who waits for whom: who is stuck, shortest rings of waiting, and whom to end.

Those that wait have places here, in ascending order, and sets of places are integers
with one bit for each place. `after` tells for each place the set of those for which
that one waits.
"""

from stuckrows.bitsets import bits


def after_of(owners, waits):
    """For each of some owners the set of those among them for which it waits."""
    place_of = {owner: place for place, owner in enumerate(owners)}
    after = []
    for owner in owners:
        others = 0
        for other in waits[owner]:
            if other in place_of:
                others |= 1 << place_of[other]
        after.append(others)
    return after


def stuck_among(after, places):
    """The greatest set of some places of which each one waits for one of the set."""
    left = places
    while True:
        stuck = left
        for place in bits(left):
            if after[place] & stuck == 0:
                stuck ^= 1 << place
        if stuck == left:
            return stuck
        left = stuck


def stuck_of(waits):
    """The ascending list of the owners that are stuck; `waits` is a dict from those that wait to lists."""
    owners = sorted(waits)
    stuck = stuck_among(after_of(owners, waits), (1 << len(owners)) - 1)
    return [owners[place] for place in bits(stuck)]


def before_of(after):
    """For each place the set of those that wait for it."""
    before = [0] * len(after)
    for place, others in enumerate(after):
        for other in bits(others):
            before[other] |= 1 << place
    return before


def layers_back(after, before, first, most):
    """The sets of the places from which a way of 0, 1, .. links leads to the first one, and none is shorter.

    The last set has a place for which the first one waits; None if that would make a ring of more than `most`.
    No place before the first one is looked at.
    """
    layers = [1 << first]
    left = (1 << len(after)) - (2 << first)
    while layers[-1] & after[first] == 0:
        earlier = 0
        for place in bits(layers[-1]):
            earlier |= before[place]
        earlier &= left
        if earlier == 0 or len(layers) == most:
            return None
        left &= ~earlier
        layers.append(earlier)
    return layers


def least_ring(after):
    """The least of the shortest rings of places, beginning with its least one; None if there is none."""
    before = before_of(after)
    best = None
    most = len(after)
    for first in range(len(after)):
        # All rings with a place before the first one have been looked at, and an equally short one would be greater.
        layers = layers_back(after, before, first, most)
        if layers is not None:
            best = layers
            most = len(layers) - 1
    if best is None:
        return None
    ring = bits(best[0])
    for layer in reversed(best[1:]):
        ring.append(bits(after[ring[-1]] & layer)[0])
    return ring


def cheapest_end(after, prices):
    """The places with the least sum of prices without which no ring is left; the shortest, then the least list."""
    everything = (1 << len(after)) - 1
    best = None
    for ended in range(everything + 1):
        places = bits(ended)
        told = (sum([prices[place] for place in places]), len(places), places)
        if (best is None or told < best) and stuck_among(after, everything & ~ended) == 0:
            best = told
    return best[2]
