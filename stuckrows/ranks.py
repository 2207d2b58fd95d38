"""Ranks: an order of all kinds of items that shows that nothing can be stuck."""

from stuckrows.errors import Mismatch
from stuckrows.modes import ModeTable
from stuckrows.spots import spots_of
from stuckrows.templates import check_ring_system
from stuckrows.words import is_tuple

WAYS = ("up", "down")
# How a held row must stand to the asked one of the same table if the way of the table is this.
TIE_OF = {"up": "less", "down": "greater"}


class Hold:
    """A blocking hold of a position."""

    def __init__(self, spot, item):
        self.told = (spot.template, spot.step, item)
        self.held = spot.kind_of(item)
        self.asked = spot.kind_of(spot.asked)
        self.tie = spot.ties[item]

    def is_within(self):
        """Whether the held and the asked item are of one kind."""
        return self.held == self.asked


def kinds_of(system):
    """The list of the kinds of a system, in their order."""
    tables = {table for template in system[2] for _, table in template[1]}
    return list(system[1]) + [(table,) for table in sorted(tables)]


def asks_by_kind(spots):
    """A dict from kinds to lists of the modes for which positions ask there."""
    asks = {}
    for spot in spots:
        asks.setdefault(spot.kind_of(spot.asked), []).append(spot.ask)
    return asks


def blocking_of(system):
    """The list of all blocking holds of a system that has been checked."""
    table = ModeTable(system[0])
    spots = spots_of(system)
    asks = asks_by_kind(spots)
    holds = []
    for spot in spots:
        for item in spot.held:
            wanted = asks.get(spot.kind_of(item), [])
            if not all(table.allows(spot.held[item], ask) for ask in wanted):
                holds.append(Hold(spot, item))
    return holds


def ways_left(kind, holds):
    """The ways of a kind that no hold within it is against."""
    ties = [hold.tie for hold in holds if hold.is_within() and hold.held == kind]
    return [way for way in WAYS if all(tie == TIE_OF[way] for tie in ties)]


def first_possible(kinds, holds):
    """The first of some kinds before which none of the others must come, None if there is none."""
    for kind in kinds:
        earlier = [hold.held for hold in holds if hold.asked == kind and not hold.is_within()]
        if not any(other in earlier for other in kinds):
            return kind
    return None


def is_against(hold, places, ways):
    """Whether a hold is against ranks, told by dicts from kinds to their places and ways."""
    if hold.is_within():
        return hold.tie != TIE_OF[ways[hold.held]]
    return places[hold.held] > places[hold.asked]


def are_ranks(system, paper):
    """Whether a value is ranks of a system."""
    kinds = kinds_of(system)
    if not isinstance(paper, (list, tuple)) or len(paper) != len(kinds):
        return False
    for entry in paper:
        if not is_tuple(entry, 2, 2) or entry[0] not in kinds or entry[1] not in WAYS:
            return False
    return len({kind for kind, _ in paper}) == len(kinds)


def faults_of(system, paper):
    """The list of the blocking holds that are against ranks."""
    places = {}
    ways = {}
    for place, (kind, way) in enumerate(paper):
        places[kind] = place
        ways[kind] = way
    return [hold for hold in blocking_of(system) if is_against(hold, places, ways)]


def blocking_holds(system):
    """The list of (template, step, name) of all blocking holds."""
    check_ring_system(system)
    return [hold.told for hold in blocking_of(system)]


def ranks(system):
    """The paper with the first possible kind at each place, None if there is none."""
    check_ring_system(system)
    holds = blocking_of(system)
    left = kinds_of(system)
    paper = []
    while left:
        kind = first_possible(left, holds)
        if kind is None:
            return None
        ways = ways_left(kind, holds)
        if not ways:
            return None
        paper.append((kind, ways[0]))
        left.remove(kind)
    return paper


def shows_ranks(system, paper):
    """Whether a value is a paper that nothing can be stuck."""
    check_ring_system(system)
    return are_ranks(system, paper) and not faults_of(system, paper)


def first_fault(system, paper):
    """The first blocking hold that is against ranks, None if there is none."""
    check_ring_system(system)
    if not are_ranks(system, paper):
        raise Mismatch("paper")
    faults = faults_of(system, paper)
    return faults[0].told if faults else None
