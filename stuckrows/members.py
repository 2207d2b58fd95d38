"""Members: from a closed walk to the members of a ring, with keys for all of their rows."""

from stuckrows.search import TIED_BY, can_close, holds_tied
from stuckrows.spots import TIES


def tie_used(links, start, before, after):
    """A tie by which the walk may go on from one of its nodes to the next one."""
    size = len(links.nodes)
    for tie in TIES:
        if links.after[before % size][tie] >> after % size & 1:
            stays = tie in TIED_BY[start.tie]
            # Who is loose stays loose; who is tied becomes loose by the other ties.
            if before >= size or stays == (after < size):
                return tie
    return None


def item_used(links, node, spot, tie):
    """An item that a member at the spot holds with this tie for the one at the node before it."""
    last = links.spot_at(node)
    kind = last.kind_of(last.asked)
    for item in holds_tied(spot, tie):
        if spot.kind_of(item) == kind and links.blocks(node, spot.held[item]):
            return item
    return None


def bound_rows(links, start, walk):
    """For each member of a ring a dict from its params that the ring binds to the numbers of their rows."""
    size = len(links.nodes)
    nodes = [node % size for node in walk]
    spots = [links.spot_at(node) for node in nodes]
    rows = [{} for _ in walk]
    asked = 0
    for place, spot in enumerate(spots):
        tie = tie_used(links, start, walk[place - 1], walk[place]) if place > 0 else "same"
        if tie != "same":
            rows[place][item_used(links, nodes[place - 1], spot, tie)] = asked
            asked = place
        rows[place][spot.asked] = asked
    if start.tie != "same":
        items = holds_tied(spots[0], start.tie)
        closing = [item for item in items if can_close(links, nodes[-1], spots[0], item)]
        rows[0][closing[0]] = asked
    return rows


def ordered_keys(count, pairs):
    """A key for each row, all of them different, such that the first row of each pair has the lesser one."""
    later = [[] for _ in range(count)]
    waits = [0] * count
    for low, high in pairs:
        later[low].append(high)
        waits[high] += 1
    ready = [row for row in range(count) if waits[row] == 0]
    keys = [0] * count
    at = 0
    while at < len(ready):
        keys[ready[at]] = at
        for high in later[ready[at]]:
            waits[high] -= 1
            if waits[high] == 0:
                ready.append(high)
        at += 1
    return keys


def keys_for(templates, bound):
    """For each of some instances its keys; `bound` has a dict from params to the numbers of their rows for each.

    Rows of different numbers have different keys, and what is not bound is a row that nobody else has.
    """
    count = max([row for rows in bound for row in rows.values()], default=-1) + 1
    numbers = []
    pairs = []
    for (_, params, orders, _), rows in zip(templates, bound):
        row_of = {}
        for param, _ in params:
            row_of[param] = rows[param] if param in rows else count
            count = max(count, row_of[param] + 1)
        pairs.extend([(row_of[low], row_of[high]) for low, high in orders])
        numbers.append([row_of[name] for name, _ in params])
    keys = ordered_keys(count, pairs)
    return [tuple([keys[row] for row in mine]) for mine in numbers]


def ring_of(system, links, start, walk):
    """The members of the ring that a walk tells, as a list of (template, step, keys)."""
    spots = [links.spot_at(node % len(links.nodes)) for node in walk]
    templates = [system[2][spot.template] for spot in spots]
    keys = keys_for(templates, bound_rows(links, start, walk))
    return [(spot.template, spot.step, mine) for spot, mine in zip(spots, keys)]
