"""The search for a shortest ring: a shortest closed walk over the nodes of links.

Around a ring of rows of one table the ties must leave keys. They do not if all rows
that are not the same are tied in one direction, or if just two that are the same by
all other ties are unlike by one. So a walk is TIED as long as nothing but its first
tie, ties in the same direction, and sameness stand in it, and LOOSE from the first
other tie on: then there are keys, whatever follows. A ring of items of several kinds
always has keys, and it is loose, too: each change of the kind is a tie that is only
unlike, and there are two of them at least. A walk begins where the items are not the
same; or it is about one single item all the way.

Each node stands twice in a walk's graph: node n is tied, node n + size is loose.
"""

from stuckrows.bitsets import bits
from stuckrows.spots import TIES

# For each first tie the ties that leave a walk tied.
TIED_BY = {
    "less": ("less", "same"),
    "greater": ("greater", "same"),
    "unlike": ("same",),
    "same": ("same",),
}


class Start:
    """A spot as the first member of a ring, and the tie of what it holds for the last one."""

    def __init__(self, links, index, tie, after):
        size = len(links.nodes)
        self.tie = tie
        self.after = after
        self.node = index
        close = closing_nodes(links, links.spots[index], tie)
        self.close = close if tie == "same" else close << size


class Trip:
    """A start with the nodes that may follow, and how many members at least are left from each."""

    def __init__(self, start, room):
        self.start = start
        self.room = room
        self.far = distances(start.after, start.close, room)
        ends = [self.far[node] for node in bits(start.after[start.node] & room) if node in self.far]
        # So many members a ring from here has at least; None if there is no ring.
        self.least = min(ends) + 2 if ends else None


def doubled(nodes, size):
    """The tied and the loose ones of some nodes."""
    return nodes | nodes << size


def graph_of(links, tie):
    """For each node, tied and loose, the set of the nodes that can follow it behind this first tie."""
    size = len(links.nodes)
    tied = []
    loose = []
    for sets in links.after:
        here = 0
        beyond = 0
        for other in TIES:
            if other in TIED_BY[tie]:
                here |= sets[other]
            else:
                beyond |= sets[other]
        # A walk about one single item never leaves it: all other ones begin elsewhere.
        tied.append(here if tie == "same" else here | beyond << size)
        loose.append((here | beyond) << size)
    return tied + loose


def holds_tied(spot, tie):
    """The items that a member at the spot holds with this tie to what it asks for."""
    return [item for item in spot.held if spot.ties[item] == tie]


def can_close(links, node, spot, item):
    """Whether a last member at the node waits directly for the item of a first one at the spot."""
    last = links.spot_at(node)
    if last.kind_of(last.asked) != spot.kind_of(item):
        return False
    if spot.ties[item] == "same":
        # What the first one holds there is in the join of the node already.
        return not links.table.allows(spot.held[item], last.ask)
    return links.blocks(node, spot.held[item])


def closing_nodes(links, spot, tie):
    """The set of the nodes of last members that wait for the first one with this tie."""
    close = 0
    for item in holds_tied(spot, tie):
        for node in range(len(links.nodes)):
            if can_close(links, node, spot, item):
                close |= 1 << node
    return close


def distances(after, close, room):
    """A dict from the nodes that lead to one that closes, to how many members at least follow."""
    far = {}
    layer = close & room
    left = room & ~close
    steps = 0
    while layer:
        earlier = 0
        for node in bits(layer):
            far[node] = steps
        for node in bits(left):
            if after[node] & layer:
                earlier |= 1 << node
        left &= ~earlier
        layer = earlier
        steps += 1
    return far


def starts_of(links):
    """All starts from which a ring may come."""
    graphs = {tie: graph_of(links, tie) for tie in TIES}
    starts = []
    for index, spot in enumerate(links.spots):
        for tie in TIES:
            if holds_tied(spot, tie):
                starts.append(Start(links, index, tie, graphs[tie]))
    return starts


def trips_of(links, starts, allowed):
    """The trips over a set of nodes, those of the shortest rings first."""
    trips = []
    for start in starts:
        if allowed >> start.node & 1:
            room = doubled(links.room_at(start.node) & allowed, len(links.nodes))
            trips.append(Trip(start, room))
    return sorted([trip for trip in trips if trip.least is not None], key=lambda trip: trip.least)


def is_covered(kept, node, told, size, bound):
    """Whether an earlier walk, so no longer one, came to the node as loose and with as much left."""
    room, counts = told
    for other, known in kept.get(node, []) + kept.get(node + size, []):
        if room & ~other == 0 and bound.covers(known, counts):
            return True
    return False


def walk_back(states, at):
    """The nodes on the way to a state."""
    walk = []
    while at >= 0:
        walk.append(states[at][0])
        at = states[at][2]
    return list(reversed(walk))


def walk_from(links, trip, most, bound):
    """The nodes of a shortest ring within a bound from a trip's start, None if none has at most `most` members."""
    size = len(links.nodes)
    start = trip.start
    far = trip.far
    kept = {}
    first = bound.with_one(bound.none_yet, links.template_at(start.node))
    # The last node, the nodes that go with all members and the counts, the state before, the members.
    states = [] if first is None else [(start.node, (trip.room, first), -1, 1)]
    at = 0
    while at < len(states):
        node, (room, counts), _, members = states[at]
        for target in bits(start.after[node] & room):
            if target not in far or (most is not None and members + 1 + far[target] > most):
                continue
            more = bound.with_one(counts, links.template_at(target % size))
            if more is None:
                continue
            if far[target] == 0 and bound.ends(more):
                return walk_back(states, at) + [target]
            rest = (room & doubled(links.room_at(target % size), size), more)
            if not is_covered(kept, target, rest, size, bound):
                kept.setdefault(target, []).append(rest)
                states.append((target, rest, at, members + 1))
        at += 1
    return None


def shortest_walk(links, trips, bound):
    """A tuple (start, nodes) for a shortest ring within a bound, None if there is none."""
    best = None
    for trip in trips:
        most = None if best is None else len(best[1]) - 1
        if most is not None and trip.least > most:
            break
        walk = walk_from(links, trip, most, bound)
        if walk is not None:
            best = (trip.start, walk)
    return best
