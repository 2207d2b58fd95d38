"""Who waits for whom: who is stuck, shortest rings of waiting, and whom to end.

Those that wait have places here, in ascending order, and sets of places are integers
with one bit for each place. `after` tells for each place the set of those for which
that one waits.
"""

from stuckrows.bitsets import bits


def after_of(owners, waits):
    """For each of some owners the set of those among them for which it waits."""
    place_of = {owner: place for place, owner in enumerate(owners)}
    after = []
    for owner in owners:
        others = 0
        for other in waits[owner]:
            if other in place_of:
                others |= 1 << place_of[other]
        after.append(others)
    return after


def stuck_among(after, places):
    """The greatest set of some places of which each one waits for one of the set."""
    left = places
    while True:
        stuck = left
        for place in bits(left):
            if after[place] & stuck == 0:
                stuck ^= 1 << place
        if stuck == left:
            return stuck
        left = stuck


def stuck_of(waits):
    """The ascending list of the owners that are stuck; `waits` is a dict from those that wait to lists."""
    owners = sorted(waits)
    stuck = stuck_among(after_of(owners, waits), (1 << len(owners)) - 1)
    return [owners[place] for place in bits(stuck)]


def before_of(after):
    """For each place the set of those that wait for it."""
    before = [0] * len(after)
    for place, others in enumerate(after):
        for other in bits(others):
            before[other] |= 1 << place
    return before


def layers_back(after, before, first, most):
    """The sets of the places from which a way of 0, 1, .. links leads to the first one, and none is shorter.

    The last set has a place for which the first one waits; None if that would make a ring of more than `most`.
    No place before the first one is looked at.
    """
    layers = [1 << first]
    left = (1 << len(after)) - (2 << first)
    while layers[-1] & after[first] == 0:
        earlier = 0
        for place in bits(layers[-1]):
            earlier |= before[place]
        earlier &= left
        if earlier == 0 or len(layers) == most:
            return None
        left &= ~earlier
        layers.append(earlier)
    return layers


def least_ring(after):
    """The least of the shortest rings of places, beginning with its least one; None if there is none."""
    before = before_of(after)
    best = None
    most = len(after)
    for first in range(len(after)):
        # All rings with a place before the first one have been looked at, and an equally short one would be greater.
        layers = layers_back(after, before, first, most)
        if layers is not None:
            best = layers
            most = len(layers) - 1
    if best is None:
        return None
    ring = bits(best[0])
    for layer in reversed(best[1:]):
        ring.append(bits(after[ring[-1]] & layer)[0])
    return ring


def groups_of(after):
    """The sets of the places that are in rings with one another; who is in no ring is in none of them."""
    reach = list(after)
    for middle, others in enumerate(after):
        for place in range(len(after)):
            if reach[place] >> middle & 1:
                reach[place] |= reach[middle] | others
    groups = {}
    for place, others in enumerate(reach):
        if others >> place & 1:
            # Those in one ring reach the same places.
            groups[others] = groups.get(others, 0) | 1 << place
    return list(groups.values())


class Ending:
    """The search for the cheapest places of a group without which no ring is left in it."""

    def __init__(self, after, before, prices):
        self.after = after
        self.before = before
        self.prices = prices
        # The least (price, count, places) that is known.
        self.best = None

    def without(self, left, place):
        """What is left of places that each wait for one another when one of them has ended."""
        left ^= 1 << place
        gone = [place]
        while gone:
            for other in bits(self.before[gone.pop()] & left):
                if self.after[other] & left == 0:
                    left ^= 1 << other
                    gone.append(other)
        return left

    def ring_in(self, left):
        """The places of a ring among places that each wait for one another, of two if there is one."""
        for place in bits(left):
            pair = self.after[place] & self.before[place] & left
            if pair:
                return [place, bits(pair)[0]]
        row = []
        place = bits(left)[0]
        while place not in row:
            row.append(place)
            place = bits(self.after[place] & left)[0]
        return row[row.index(place):]

    def look(self, left, free, ended, told):
        """Ends those that may be, so that no ring is left; `told` is the price and the number of those that have."""
        if left == 0:
            found = told + (bits(ended),)
            if self.best is None or found < self.best:
                self.best = found
            return
        for place in self.ring_in(left):
            if free >> place & 1:
                # Whatever holds with this place ended is looked at here; so behind it this place is kept.
                free ^= 1 << place
                more = (told[0] + self.prices[place], told[1] + 1)
                if self.best is None or more <= self.best[:2]:
                    self.look(self.without(left, place), free, ended | 1 << place, more)


def cheapest_end(after, prices):
    """The places with the least sum of prices without which no ring is left; the shortest, then the least list."""
    before = before_of(after)
    places = []
    for group in groups_of(after):
        # Rings of several groups have no place in common; so the least of each are the least of all.
        ending = Ending([others & group for others in after], [others & group for others in before], prices)
        ending.look(group, group, 0, (0, 0))
        places.extend(ending.best[2])
    return sorted(places)
