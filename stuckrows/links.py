"""Links: which member of a ring can wait for which one.

A node is a spot together with the join of all modes in which the members of a ring
so far hold the item that the spot asks for. Keys that nothing binds can always be
taken apart from all others; so a ring is a closed walk over nodes whose members go
together at the fixed items, and whose ties leave keys for all rows.

Sets of nodes are integers here, with one bit for each node.
"""

from stuckrows.modes import ModeTable
from stuckrows.spots import TIES, spots_of


class Links:
    """The nodes of a system, and for each tie and each node the nodes that it can wait for."""

    def __init__(self, system):
        self.table = ModeTable(system[0])
        self.spots = spots_of(system)
        self.nodes = []
        self.places = {}
        for index, spot in enumerate(self.spots):
            self.node_at(index, spot.own)
        self.holders = holders_by_kind(self.spots)
        self.askers = askers_by_kind(self.spots)
        self.after = []
        while len(self.after) < len(self.nodes):
            self.after.append(self.links_from(len(self.after)))
        self.rooms = [self.room_of(spot) for spot in self.spots]

    def node_at(self, index, mode):
        """The number of a node; a spot's first node has the spot's own number."""
        key = (index, mode)
        if key not in self.places:
            self.places[key] = len(self.nodes)
            self.nodes.append(key)
        return self.places[key]

    def spot_at(self, node):
        """The spot of a node."""
        return self.spots[self.nodes[node][0]]

    def template_at(self, node):
        """The template of a node."""
        return self.spots[self.nodes[node][0]].template

    def nodes_of(self, templates):
        """The set of the nodes of some templates."""
        found = 0
        for node in range(len(self.nodes)):
            if self.template_at(node) in templates:
                found |= 1 << node
        return found

    def room_at(self, node):
        """The set of the nodes that go together with a node at the fixed items."""
        return self.rooms[self.nodes[node][0]]

    def blocks(self, node, held):
        """Whether a next member that holds the asked item in this mode makes the node wait."""
        spot = self.spot_at(node)
        return not self.table.allows(held, spot.ask) and self.table.allows(self.nodes[node][1], held)

    def links_from(self, node):
        """For each tie the set of the nodes that this one can wait for."""
        index, mode = self.nodes[node]
        spot = self.spots[index]
        kind = spot.kind_of(spot.asked)
        sets = {tie: 0 for tie in TIES}
        for other, held, tie in self.holders.get(kind, []):
            if self.blocks(node, held):
                # Who asks for the very item that it holds goes on with all that is held there.
                target = self.node_at(other, self.table.join_of(mode, held)) if tie == "same" else other
                sets[tie] |= 1 << target
        if spot.own is None:
            # Who waits behind another one asks for the same item as that one does.
            sets["same"] |= self.askers[kind]
        return sets

    def room_of(self, spot):
        """The set of the nodes whose holds at fixed items go with those of the spot."""
        room = 0
        for node, (index, _) in enumerate(self.nodes):
            if go_together(self.table, spot, self.spots[index]):
                room |= 1 << node
        return room


def go_together(table, spot, other):
    """Whether members at these spots allow one another at all fixed items."""
    for item in spot.held:
        if spot.tables[item] is None and not table.allows(other.held.get(item), spot.held[item]):
            return False
    return True


def holders_by_kind(spots):
    """A dict from kinds to lists of (spot, mode, tie) for all holds of this kind."""
    holders = {}
    for index, spot in enumerate(spots):
        for item in spot.held:
            row = (index, spot.held[item], spot.ties[item])
            holders.setdefault(spot.kind_of(item), []).append(row)
    return holders


def askers_by_kind(spots):
    """A dict from kinds to the sets of the first nodes that ask for an item of this kind."""
    askers = {}
    for index, spot in enumerate(spots):
        kind = spot.kind_of(spot.asked)
        askers[kind] = askers.get(kind, 0) | 1 << index
    return askers
