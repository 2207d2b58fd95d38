"""Grants: which owners hold which items, who waits where, and what is granted when.

Nothing is checked here: owners, items and modes are what they must be, and an owner
that waits asks for nothing and frees nothing.
"""


class Grants:
    """The holds and the waiting asks of all owners."""

    def __init__(self, table):
        self.table = table
        # For each owner what it holds in which mode, in the order in which it locked it.
        self.held = {}
        # For each item who holds it in which mode.
        self.holders = {}
        # For each item at which somebody waits: the conversions as they came, and the queue.
        self.conversions = {}
        self.queues = {}
        # For each owner that waits the item and the ask.
        self.asks = {}

    def is_allowed(self, owner, item, ask):
        """Whether all other holders of the item allow the ask."""
        holders = self.holders.get(item, {})
        for other in holders:
            if other != owner and not self.table.allows(holders[other], ask):
                return False
        return True

    def give(self, owner, item, mode):
        """The owner holds the item in this mode from now on."""
        self.held.setdefault(owner, {})[item] = mode
        self.holders.setdefault(item, {})[owner] = mode

    def ask(self, owner, item, mode):
        """Whether the ask of an owner is granted at once; otherwise the owner waits."""
        held = self.holders.get(item, {}).get(owner)
        ask = self.table.join_of(held, mode)
        if ask == held:
            return True
        if held is not None:
            rows = self.conversions
            must_wait = False
        else:
            rows = self.queues
            must_wait = item in self.conversions or item in self.queues
        if not must_wait and self.is_allowed(owner, item, ask):
            self.give(owner, item, ask)
            return True
        rows.setdefault(item, []).append(owner)
        self.asks[owner] = (item, ask)
        return False

    def grant(self, owner):
        """Grants the ask of a waiting owner if it is allowed now; whether it is."""
        item, ask = self.asks[owner]
        if not self.is_allowed(owner, item, ask):
            return False
        del self.asks[owner]
        self.give(owner, item, ask)
        return True

    def grant_at(self, item):
        """Grants what can be granted where something was freed; the list of the owners, in order."""
        granted = []
        left = []
        conversions = self.conversions.pop(item, [])
        for owner in conversions:
            if self.grant(owner):
                granted.append(owner)
            else:
                left.append(owner)
        if left:
            self.conversions[item] = left
            return granted
        queue = self.queues.pop(item, [])
        count = 0
        while count < len(queue) and self.grant(queue[count]):
            count += 1
        if count < len(queue):
            self.queues[item] = queue[count:]
        return granted + queue[:count]

    def free(self, owner, item):
        """Frees an item; the list of the owners whose asks are granted by it, in order."""
        del self.held[owner][item]
        if not self.held[owner]:
            del self.held[owner]
        del self.holders[item][owner]
        if not self.holders[item]:
            del self.holders[item]
        return self.grant_at(item)

    def withdraw(self, owner):
        """Takes the ask of a waiting owner away; the item at which it waited."""
        item, _ = self.asks.pop(owner)
        rows = self.conversions if owner in self.holders.get(item, {}) else self.queues
        rows[item].remove(owner)
        if not rows[item]:
            del rows[item]
        return item

    def end(self, owner):
        """Ends an owner; the list of (owner, item) of the asks that are granted, in order."""
        granted = []
        if owner in self.asks:
            item = self.withdraw(owner)
            granted.extend([(other, item) for other in self.grant_at(item)])
        for item in list(self.held.get(owner, {})):
            granted.extend([(other, item) for other in self.free(owner, item)])
        return granted

    def waiters(self, item):
        """Who waits at an item: the conversions in the order in which they came, then the queue."""
        return self.conversions.get(item, []) + self.queues.get(item, [])

    def blockers(self, owner):
        """The ascending list of the owners for which an owner waits."""
        if owner not in self.asks:
            return []
        item, ask = self.asks[owner]
        holders = self.holders.get(item, {})
        found = {other: True for other in holders if other != owner and not self.table.allows(holders[other], ask)}
        if owner not in holders:
            waiters = self.waiters(item)
            for other in waiters[:waiters.index(owner)]:
                found[other] = True
        return sorted(found)

    def waits(self):
        """A dict from all owners that wait to the lists of those for which they wait."""
        return {owner: self.blockers(owner) for owner in self.asks}

    def copied(self):
        """Grants that stand as these do."""
        other = Grants(self.table)
        other.held = {owner: {item: held[item] for item in held} for owner, held in self.held.items()}
        other.holders = {item: dict(self.holders[item]) for item in self.holders}
        other.conversions = {item: list(self.conversions[item]) for item in self.conversions}
        other.queues = {item: list(self.queues[item]) for item in self.queues}
        other.asks = dict(self.asks)
        return other
