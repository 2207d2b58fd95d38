"""The lock table: owners that hold items in modes, and wait for one another."""

from stuckrows.errors import InvalidItem, InvalidMode, InvalidOwner, InvalidPrices, NotHeld, TooLarge, Waiting
from stuckrows.grants import Grants
from stuckrows.modes import ModeTable, require_modes
from stuckrows.waiting import after_of, cheapest_end, least_ring, stuck_of
from stuckrows.words import is_integer, is_item

MOST_STUCK = 12


def require_owner(owner):
    """Raises InvalidOwner if the value is no owner."""
    if not is_integer(owner) or owner < 0:
        raise InvalidOwner(owner)


def require_item(item):
    """Raises InvalidItem if the value is no item."""
    if not is_item(item):
        raise InvalidItem(item)


class LockTable:
    """Who holds which items in which modes, and who waits for which asks."""

    def __init__(self, modes):
        require_modes(modes)
        self.modes = modes
        self.grants = Grants(ModeTable(modes))

    def require_ready(self, owner):
        """Raises Waiting if the owner waits."""
        if owner in self.grants.asks:
            raise Waiting(owner)

    def ask(self, owner, item, mode):
        """Whether the ask of an owner for a mode is granted at once; otherwise the owner waits."""
        require_owner(owner)
        require_item(item)
        if mode not in self.modes[0]:
            raise InvalidMode(mode)
        self.require_ready(owner)
        return self.grants.ask(owner, item, mode)

    def let_go(self, owner, item):
        """Frees an item; the list of (owner, item) of the asks that are granted by it."""
        require_owner(owner)
        require_item(item)
        self.require_ready(owner)
        if owner not in self.grants.holders.get(item, {}):
            raise NotHeld(item)
        return [(other, item) for other in self.grants.free(owner, item)]

    def finish(self, owner):
        """Ends an owner; the list of (owner, item) of the asks that are granted by it."""
        require_owner(owner)
        return self.grants.end(owner)

    def holds_of(self, owner):
        """The list of (item, mode) that the owner holds, in the order in which ending it frees them."""
        require_owner(owner)
        held = self.grants.held.get(owner, {})
        return [(item, held[item]) for item in held]

    def holders_at(self, item):
        """The ascending list of (owner, mode) of those that hold the item."""
        require_item(item)
        holders = self.grants.holders.get(item, {})
        return [(owner, holders[owner]) for owner in sorted(holders)]

    def waiters_at(self, item):
        """The list of (owner, ask) of those that wait at the item, the conversions first."""
        require_item(item)
        return [(owner, self.grants.asks[owner][1]) for owner in self.grants.waiters(item)]

    def ask_of(self, owner):
        """The (item, ask) for which the owner waits, None if it does not wait."""
        require_owner(owner)
        return self.grants.asks.get(owner)

    def waits_for(self, owner):
        """The ascending list of the owners for which the owner waits."""
        require_owner(owner)
        return self.grants.blockers(owner)

    def stuck_owners(self):
        """The ascending list of the owners that are stuck."""
        return stuck_of(self.grants.waits())

    def waiting_ring(self):
        """The shortest, then least list of owners that wait for one another in a ring, None if there is none."""
        waits = self.grants.waits()
        stuck = stuck_of(waits)
        ring = least_ring(after_of(stuck, waits))
        return None if ring is None else [stuck[place] for place in ring]

    def least_victims(self, prices):
        """The ascending list of owners with the least sum of prices without which nobody is stuck."""
        waits = self.grants.waits()
        stuck = stuck_of(waits)
        if not isinstance(prices, dict):
            raise InvalidPrices("prices")
        for owner in stuck:
            if not is_integer(prices.get(owner)) or prices[owner] < 0:
                raise InvalidPrices("prices")
        if len(stuck) > MOST_STUCK:
            raise TooLarge(MOST_STUCK)
        # Who is not stuck keeps nobody stuck, and what is stuck after some have ended waited before as it does then.
        places = cheapest_end(after_of(stuck, waits), [prices[owner] for owner in stuck])
        return [stuck[place] for place in places]

    def copied(self):
        """A lock table that stands as this one does."""
        other = LockTable(self.modes)
        other.grants = self.grants.copied()
        return other
