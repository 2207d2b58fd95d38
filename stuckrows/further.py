"""Further orders of keys: what can be told beyond the orders of templates."""

from stuckrows.errors import Mismatch
from stuckrows.orderings import all_less, can_be_fulfilled
from stuckrows.words import is_index, is_tuple


def orders_of(template, index):
    """The list of the further orders of a template, by the places of its params."""
    params = template[1]
    less = all_less(template[2])
    found = []
    for low, table in params:
        for high, other in params:
            if low != high and table == other and (low, high) not in less and (high, low) not in less:
                found.append((index, low, high))
    return found


def all_further(templates):
    """The ascending list of the further orders of some templates."""
    found = []
    for index, template in enumerate(templates):
        found.extend(orders_of(template, index))
    return found


def ordered(templates, orders):
    """The templates, each with its own ones of some orders behind its orders."""
    made = []
    for index, (name, params, told, steps) in enumerate(templates):
        more = tuple([(low, high) for template, low, high in orders if template == index])
        made.append((name, params, told + more, steps))
    return tuple(made)


def go_together(templates, orders):
    """Whether no param is less than itself with some orders more."""
    return all(can_be_fulfilled(template[2]) for template in ordered(templates, orders))


def has_form(value, size):
    """Whether a value is a tuple of three with an index of a template first, and names behind it."""
    if not is_tuple(value, 3, 3) or not is_index(value[0], size):
        return False
    return isinstance(value[1], str) and isinstance(value[2], str)


def require_further(system, orders):
    """Raises Mismatch if a value is no further orders of a system."""
    if not isinstance(orders, (list, tuple)):
        raise Mismatch("orders")
    known = {order: True for order in all_further(system[2])}
    taken = {}
    for order in orders:
        if not has_form(order, len(system[2])) or order not in known or order in taken:
            raise Mismatch("orders")
        taken[order] = True
    if not go_together(system[2], orders):
        raise Mismatch("orders")


def disobeyed(templates, ring, orders):
    """The set of the places of those orders that some member of a ring does not obey."""
    found = 0
    for template, _, keys in ring:
        key_of = {param: key for (param, _), key in zip(templates[template][1], keys)}
        for place, (index, low, high) in enumerate(orders):
            if index == template and key_of[low] >= key_of[high]:
                found |= 1 << place
    return found
