"""Rings: members of which each waits for the next one, for ever."""

from stuckrows.errors import Mismatch
from stuckrows.links import Links
from stuckrows.members import ring_of
from stuckrows.modes import ModeTable
from stuckrows.search import shortest_walk
from stuckrows.spots import spots_of
from stuckrows.templates import are_keys, check_ring_system
from stuckrows.words import is_integer, is_tuple


class Member:
    """A member of a ring: the items that it holds, has freed and asks for."""

    def __init__(self, spot, params, keys):
        items = {}
        for (param, table), key in zip(params, keys):
            items[param] = (table, key)
        self.held = {items.get(name, name): spot.held[name] for name in spot.held}
        self.freed = [items.get(name, name) for name in spot.freed]
        self.item = items.get(spot.asked, spot.asked)
        self.ask = spot.ask


def find_ring(system):
    """A shortest ring of a system that has been checked, None if there is none."""
    links = Links(system)
    found = shortest_walk(links)
    if found is None:
        return None
    start, walk = found
    return ring_of(system, links, start, walk)


def read_members(system, ring):
    """The list of the members of a value, None if it is no list or tuple of them."""
    if not isinstance(ring, (list, tuple)):
        return None
    spots = {(spot.template, spot.step): spot for spot in spots_of(system)}
    members = []
    for entry in ring:
        if not is_tuple(entry, 3, 3):
            return None
        template, step, keys = entry
        if not is_integer(template) or not is_integer(step) or (template, step) not in spots:
            return None
        if not are_keys(system[2][template], keys):
            return None
        members.append(Member(spots[template, step], system[2][template][1], keys))
    return members


def holds_go_together(table, members):
    """Whether the holds of any two members allow one another at each item."""
    joins = {}
    for member in members:
        for item in member.held:
            mode = member.held[item]
            # Modes are exact, so the join of all that is held there decides for each holder.
            if not table.allows(joins.get(item), mode):
                return False
            joins[item] = table.join_of(joins.get(item), mode)
    return True


def nothing_freed_is_held(members):
    """Whether no member has freed an item that another one holds."""
    held = {item: True for member in members for item in member.held}
    return not any(item in held for member in members for item in member.freed)


def waits_directly(table, member, other):
    """Whether the other one holds what the member asks for in a mode that does not allow it."""
    return not table.allows(other.held.get(member.item), member.ask)


def waits_behind(member, other):
    """Whether the other one asks for the same item, at which the member holds nothing."""
    return member.item == other.item and member.item not in member.held


def with_next(members):
    """The list of all pairs of a member and the next one."""
    return list(zip(members, members[1:] + members[:1]))


def is_ring(table, members):
    """Whether two or more members are a ring."""
    if not holds_go_together(table, members) or not nothing_freed_is_held(members):
        return False
    pairs = with_next(members)
    if not any(waits_directly(table, member, other) for member, other in pairs):
        return False
    return all(waits_directly(table, member, other) or waits_behind(member, other) for member, other in pairs)


def asking_order(table, members):
    """The places of the members in an order in which all of them come to wait, one after another."""
    direct = [waits_directly(table, member, other) for member, other in with_next(members)]
    order = [place for place in range(len(members)) if direct[place]]
    for last in list(order):
        # Who waits behind another one must ask later than that one does.
        place = last - 1
        while not direct[place]:
            order.append(place % len(members))
            place -= 1
    return order


def can_be_stuck(system):
    """Whether some instances of the system, any number of each template, can be stuck."""
    check_ring_system(system)
    return find_ring(system) is not None


def shortest_ring(system):
    """A ring with as few members as possible, None if there is none."""
    check_ring_system(system)
    return find_ring(system)


def fewest(system):
    """The number of members of a shortest ring, None if there is none."""
    check_ring_system(system)
    ring = find_ring(system)
    return None if ring is None else len(ring)


def shows_ring(system, ring):
    """Whether a value is a ring of the system."""
    check_ring_system(system)
    members = read_members(system, ring)
    return members is not None and len(members) > 1 and is_ring(ModeTable(system[0]), members)


def ring_schedule(system, ring):
    """The instances of a ring, and a schedule behind which all of them are stuck at their positions."""
    if not shows_ring(system, ring):
        raise Mismatch("ring")
    members = read_members(system, ring)
    schedule = []
    for place, entry in enumerate(ring):
        schedule.extend([place] * entry[1])
    schedule.extend(asking_order(ModeTable(system[0]), members))
    return ([(template, keys) for template, _, keys in ring], schedule)
