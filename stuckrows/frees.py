"""Frees: how early rows may be freed without disorder, and how late without anything that can be stuck."""

from stuckrows.disorders import Ways, disorder_in
from stuckrows.errors import InvalidNumber, TooLarge
from stuckrows.finder import find_ring
from stuckrows.forms import MOST_STEPS
from stuckrows.orderly import check_orderly, require_orderly
from stuckrows.placing import all_slots, are_places, most_steps, place_now, placed
from stuckrows.templates import check_system
from stuckrows.words import is_integer, is_tuple

MOST_LISTS = 300


def slots(system):
    """The list of all (template, param, low, high)."""
    check_orderly(system)
    return [slot.told() for slot in all_slots(system)]


def places_now(system):
    """The list of the places at which the templates free their params now."""
    check_orderly(system)
    return [place_now(system, slot) for slot in all_slots(system)]


def with_places(system, places):
    """The system with its params freed at these places."""
    check_system(system)
    mine = all_slots(system)
    if not are_places(mine, places):
        raise InvalidNumber("places")
    require_orderly(system)
    made = placed(system, mine, places)
    if any(len(template[3]) > MOST_STEPS for template in made[2]):
        raise TooLarge(MOST_STEPS)
    return made


def places_of_order(mine, order):
    """The places of the slots in an order, None if a value is no order of all slots."""
    if not isinstance(order, (list, tuple)) or len(order) != len(mine):
        return None
    known = {(slot.template, slot.param): place for place, slot in enumerate(mine)}
    found = {}
    for entry in order:
        if not is_tuple(entry, 2, 2) or not is_integer(entry[0]) or not isinstance(entry[1], str):
            return None
        if entry not in known or known[entry] in found:
            return None
        found[known[entry]] = True
    return list(found)


def require_few_steps(system, mine):
    """Raises TooLarge if a template with a free step for each of its slots would have too many steps."""
    if most_steps(system, mine) > MOST_STEPS:
        raise TooLarge(MOST_STEPS)


def earliest(system, order):
    """The list of the places when each slot in turn is freed as early as nothing can be disorderly."""
    check_system(system)
    mine = all_slots(system)
    turns = places_of_order(mine, order)
    if turns is None:
        raise InvalidNumber("order")
    require_orderly(system)
    require_few_steps(system, mine)
    ways = Ways(system)
    places = [slot.high for slot in mine]
    for turn in turns:
        # Where the slot is freed now nothing is disorderly, so the least such place is found.
        places[turn] = mine[turn].low
        while disorder_in(ways, placed(system, mine, places)[2]) is not None:
            places[turn] += 1
    return places


def is_no_later(places, others):
    """Whether no param is freed later at these places than at the others."""
    return all(place <= other for place, other in zip(places, others))


class Calm:
    """Whether places are calm, by what is known of others."""

    def __init__(self, system, mine):
        self.system = system
        self.slots = mine
        self.ways = Ways(system)
        # Places at which something can be disorderly, and at which something can be stuck.
        self.disorderly = []
        self.stuck = []

    def is_known(self, places):
        """Whether other places tell that these are not calm."""
        # Who frees earlier is no more orderly, and who frees later is no less stuck.
        if any(is_no_later(places, others) for others in self.disorderly):
            return True
        return any(is_no_later(others, places) for others in self.stuck)

    def is_calm(self, places):
        """Whether nothing can be disorderly and nothing can be stuck at these places."""
        if self.is_known(places):
            return False
        system = placed(self.system, self.slots, places)
        if disorder_in(self.ways, system[2]) is not None:
            self.disorderly.append(places)
            return False
        if find_ring(system) is not None:
            self.stuck.append(places)
            return False
        return True


def all_lists(mine):
    """All lists of places, the least ones first."""
    lists = [[]]
    for slot in mine:
        lists = [some + [place] for some in lists for place in range(slot.low, slot.high + 1)]
    return lists


def calm_places(system):
    """The least list of places with which nothing can be disorderly and nothing stuck, None if there is none."""
    check_orderly(system)
    mine = all_slots(system)
    require_few_steps(system, mine)
    count = 1
    for slot in mine:
        count *= slot.high - slot.low + 1
    if count > MOST_LISTS:
        raise TooLarge(MOST_LISTS)
    calm = Calm(system, mine)
    for places in all_lists(mine):
        if calm.is_calm(places):
            return places
    return None
