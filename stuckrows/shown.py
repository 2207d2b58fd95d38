"""What is shown as a ring: whether it is one."""

from stuckrows.modes import ModeTable
from stuckrows.spots import spots_of
from stuckrows.templates import are_keys
from stuckrows.words import is_integer, is_tuple


class Member:
    """A member of a ring: the items that it holds, has freed and asks for."""

    def __init__(self, spot, params, keys):
        items = {}
        for (param, table), key in zip(params, keys):
            items[param] = (table, key)
        self.held = {items.get(name, name): spot.held[name] for name in spot.held}
        self.freed = [items.get(name, name) for name in spot.freed]
        self.item = items.get(spot.asked, spot.asked)
        self.ask = spot.ask


class Reader:
    """What tells the rings of a system that has been checked."""

    def __init__(self, system):
        self.templates = system[2]
        self.table = ModeTable(system[0])
        self.spots = {(spot.template, spot.step): spot for spot in spots_of(system)}

    def member_of(self, entry):
        """The member that a value is, None if it is none."""
        if not is_tuple(entry, 3, 3):
            return None
        template, step, keys = entry
        if not is_integer(template) or not is_integer(step) or (template, step) not in self.spots:
            return None
        if not are_keys(self.templates[template], keys):
            return None
        return Member(self.spots[template, step], self.templates[template][1], keys)

    def members(self, ring):
        """The list of the members of a value, None if it is no list or tuple of them."""
        if not isinstance(ring, (list, tuple)):
            return None
        members = []
        for entry in ring:
            member = self.member_of(entry)
            if member is None:
                return None
            members.append(member)
        return members

    def shows(self, ring):
        """Whether a value is a ring of the system."""
        members = self.members(ring)
        return members is not None and len(members) > 1 and is_ring(self.table, members)


def holds_go_together(table, members):
    """Whether the holds of any two members allow one another at each item."""
    joins = {}
    for member in members:
        for item in member.held:
            mode = member.held[item]
            # Modes are exact, so the join of all that is held there decides for each holder.
            if not table.allows(joins.get(item), mode):
                return False
            joins[item] = table.join_of(joins.get(item), mode)
    return True


def nothing_freed_is_held(members):
    """Whether no member has freed an item that another one holds."""
    held = {item: True for member in members for item in member.held}
    return not any(item in held for member in members for item in member.freed)


def waits_directly(table, member, other):
    """Whether the other one holds what the member asks for in a mode that does not allow it."""
    return not table.allows(other.held.get(member.item), member.ask)


def waits_behind(member, other):
    """Whether the other one asks for the same item, at which the member holds nothing."""
    return member.item == other.item and member.item not in member.held


def with_next(members):
    """The list of all pairs of a member and the next one."""
    return list(zip(members, members[1:] + members[:1]))


def is_ring(table, members):
    """Whether two or more members are a ring."""
    if not holds_go_together(table, members) or not nothing_freed_is_held(members):
        return False
    pairs = with_next(members)
    if not any(waits_directly(table, member, other) for member, other in pairs):
        return False
    return all(waits_directly(table, member, other) or waits_behind(member, other) for member, other in pairs)


def asking_order(table, members):
    """The places of the members in an order in which all of them come to wait, one after another."""
    direct = [waits_directly(table, member, other) for member, other in with_next(members)]
    order = [place for place in range(len(members)) if direct[place]]
    for last in list(order):
        # Who waits behind another one must ask later than that one does.
        place = last - 1
        while not direct[place]:
            order.append(place % len(members))
            place -= 1
    return order
