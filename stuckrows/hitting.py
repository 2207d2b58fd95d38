"""Which orders are enough: the least set of some orders with which nothing can be stuck.

Each ring that is found tells a set of orders, those that it does not obey, one of which
must be taken. So most sets of orders need no search for a ring.
"""

from stuckrows.bitsets import bits
from stuckrows.finder import find_ring
from stuckrows.further import disobeyed, go_together, ordered


class Hunt:
    """The orders that may be taken, and the rings that have been found so far."""

    def __init__(self, system, orders):
        self.system = system
        self.orders = orders
        self.rings = []
        # For each ring the set of the places of the orders that it does not obey.
        self.masks = []

    def is_enough(self, places):
        """Whether nothing can be stuck with the orders at these places; keeps the ring that shows that it can."""
        modes, fixed, templates = self.system
        some = [self.orders[place] for place in places]
        if not go_together(templates, some):
            return False
        ring = find_ring((modes, fixed, ordered(templates, some)))
        if ring is None:
            return True
        self.rings.append(ring)
        self.masks.append(disobeyed(templates, ring, self.orders))
        return False

    def wanted(self, places):
        """The set of the orders that none of the rings obeys that obey the orders at these places."""
        taken = 0
        for place in places:
            taken |= 1 << place
        found = (1 << len(self.orders)) - 1
        for mask in self.masks:
            if mask & taken == 0:
                found &= mask
        return found

    def is_hopeless(self):
        """Whether a ring is known that obeys each of the orders."""
        return 0 in self.masks

    def last_enough(self, places, first):
        """The least place, from the first one on, with which some places are enough; None if there is none."""
        left = self.wanted(places) >> first << first
        while left:
            place = bits(left & -left)[0]
            if self.is_enough(places + [place]):
                return place
            left = self.wanted(places) >> place + 1 << place + 1
        return None

    def least_enough(self, places, size):
        """The least list of so many places, some first ones given, that is enough; None if there is none."""
        first = places[-1] + 1 if places else 0
        if self.is_hopeless():
            return None
        if size == len(places):
            return places if self.is_enough(places) else None
        if size == len(places) + 1:
            last = self.last_enough(places, first)
            return None if last is None else places + [last]
        for place in range(first, len(self.orders)):
            found = self.least_enough(places + [place], size)
            if found is not None:
                return found
        return None
