"""Rings: members of which each waits for the next one, for ever."""

from stuckrows.errors import Mismatch
from stuckrows.finder import find_ring
from stuckrows.shown import Reader, asking_order
from stuckrows.templates import check_ring_system


def can_be_stuck(system):
    """Whether some instances of the system, any number of each template, can be stuck."""
    check_ring_system(system)
    return find_ring(system) is not None


def shortest_ring(system):
    """A ring with as few members as possible, None if there is none."""
    check_ring_system(system)
    return find_ring(system)


def fewest(system):
    """The number of members of a shortest ring, None if there is none."""
    check_ring_system(system)
    ring = find_ring(system)
    return None if ring is None else len(ring)


def shows_ring(system, ring):
    """Whether a value is a ring of the system."""
    check_ring_system(system)
    return Reader(system).shows(ring)


def ring_schedule(system, ring):
    """The instances of a ring, and a schedule behind which all of them are stuck at their positions."""
    check_ring_system(system)
    reader = Reader(system)
    if not reader.shows(ring):
        raise Mismatch("ring")
    schedule = []
    for place, entry in enumerate(ring):
        schedule.extend([place] * entry[1])
    schedule.extend(asking_order(reader.table, reader.members(ring)))
    return ([(template, keys) for template, _, keys in ring], schedule)
