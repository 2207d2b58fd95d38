"""Orders of keys: which further ones keep instances from being stuck, and which ones are not needed."""

from itertools import combinations

from stuckrows.errors import InvalidNumber, Mismatch, TooLarge
from stuckrows.finder import find_ring
from stuckrows.full import full_rows, one_of_each, told_by
from stuckrows.further import all_further, disobeyed, go_together, ordered, require_further
from stuckrows.hitting import Hunt
from stuckrows.orderings import all_less
from stuckrows.shown import Reader
from stuckrows.templates import check_ring_system, check_system, require_rings
from stuckrows.words import is_index

MOST_ORDERS = 3
MOST_KEPT = 8
MOST_FULL = 300


def further_orders(system):
    """The ascending list of all further orders."""
    check_ring_system(system)
    return all_further(system[2])


def with_orders(system, orders):
    """The system in which each template has its own ones of some further orders behind its orders."""
    check_ring_system(system)
    require_further(system, orders)
    return (system[0], system[1], ordered(system[2], orders))


def hunt_of(system, most):
    """A tuple of the fewest further orders and a paper for their number, None if they are too many."""
    check_system(system)
    if not is_index(most, MOST_ORDERS + 1):
        raise InvalidNumber("most")
    require_rings(system)
    hunt = Hunt(system, all_further(system[2]))
    for size in range(most + 1):
        # With fewer orders than these each choice has been shown by one of the rings found so far.
        paper = list(hunt.rings)
        places = hunt.least_enough([], size)
        if places is not None:
            return ([hunt.orders[place] for place in places], paper)
    return None


def least_orders(system, most):
    """The fewest further orders with which nothing can be stuck, None if they are more than `most`."""
    found = hunt_of(system, most)
    return None if found is None else found[0]


def orders_paper(system, most):
    """A tuple of what least_orders returns and a paper for its length, None if there is none."""
    return hunt_of(system, most)


def leave_a_ring(templates, orders, size, masks):
    """Whether for any so many of some orders that go together there is a ring that obeys all of them."""
    for places in combinations(range(len(orders)), size):
        taken = sum([1 << place for place in places])
        if all(mask & taken for mask in masks) and go_together(templates, [orders[place] for place in places]):
            return False
    return True


def is_paper(system, size, paper):
    """Whether a value is a paper that there are no fewer than so many further orders."""
    if not isinstance(paper, list):
        return False
    reader = Reader(system)
    if not all(reader.shows(ring) for ring in paper):
        return False
    if size == 0:
        return True
    orders = all_further(system[2])
    masks = [disobeyed(system[2], ring, orders) for ring in paper]
    return leave_a_ring(system[2], orders, size - 1, masks)


def shows_fewest(system, orders, paper):
    """Whether nothing can be stuck with these further orders, and a value is a paper for their number."""
    check_ring_system(system)
    require_further(system, orders)
    if len(orders) > MOST_ORDERS:
        raise TooLarge(MOST_ORDERS)
    if find_ring((system[0], system[1], ordered(system[2], orders))) is not None:
        return False
    return is_paper(system, len(orders), paper)


def check_calm(system):
    """Raises what can_be_stuck raises, and Mismatch if something can be stuck."""
    check_ring_system(system)
    if find_ring(system) is not None:
        raise Mismatch("stuck")


def without_order(system, index, place):
    """The system in which a template has one of its orders left out."""
    name, params, orders, steps = system[2][index]
    left = (name, params, orders[:place] + orders[place + 1:], steps)
    return (system[0], system[1], system[2][:index] + (left,) + system[2][index + 1:])


def is_needless(system, index, place):
    """Whether nothing can be stuck if a template has one of its orders left out."""
    orders = system[2][index][2]
    low, high = orders[place]
    # What others tell as well changes nothing.
    if (low, high) in all_less(orders[:place] + orders[place + 1:]):
        return True
    return find_ring(without_order(system, index, place)) is None


def needless_orders(system):
    """The ascending list of (template, place) of the orders that can be left out alone."""
    check_calm(system)
    found = []
    for index, template in enumerate(system[2]):
        found.extend([(index, place) for place in range(len(template[2])) if is_needless(system, index, place)])
    return found


def fewest_kept(system):
    """The fewest (template, place) of the orders that are enough without all others."""
    check_calm(system)
    modes, fixed, templates = system
    told = [(index, place) for index, template in enumerate(templates) for place in range(len(template[2]))]
    if len(told) > MOST_KEPT:
        raise TooLarge(MOST_KEPT)
    bare = tuple([(name, params, (), steps) for name, params, _, steps in templates])
    hunt = Hunt((modes, fixed, bare), [(index,) + templates[index][2][place] for index, place in told])
    size = 0
    places = hunt.least_enough([], size)
    while places is None:
        size += 1
        places = hunt.least_enough([], size)
    return [told[place] for place in places]


def full_orders(system):
    """The least full order with which nothing can be stuck, None if there is none."""
    check_ring_system(system)
    modes, fixed, templates = system
    rows = full_rows(templates)
    count = 1
    for choices in rows:
        count *= len(choices)
    if count > MOST_FULL:
        raise TooLarge(MOST_FULL)
    rings = []
    for full in one_of_each(rows):
        orders = told_by(full)
        if all(disobeyed(templates, ring, orders) for ring in rings):
            ring = find_ring((modes, fixed, ordered(templates, orders)))
            if ring is None:
                return full
            rings.append(ring)
    return None
