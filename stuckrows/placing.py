"""Places: behind how many lock steps a template frees each of its params."""

from stuckrows.words import is_integer


class Slot:
    """A param that a template locks, and between which places it may be freed."""

    def __init__(self, template, param, low, high):
        self.template = template
        self.param = param
        self.low = low
        self.high = high

    def told(self):
        """The slot as a tuple."""
        return (self.template, self.param, self.low, self.high)


def locks_of(steps):
    """The list of the lock steps."""
    return [step for step in steps if step[0] == "lock"]


def all_slots(system):
    """The list of the slots of a system, in their order."""
    found = []
    for index, (_, params, _, steps) in enumerate(system[2]):
        items = [step[1] for step in locks_of(steps)]
        for param, _ in params:
            lows = [place + 1 for place, item in enumerate(items) if item == param]
            if lows:
                found.append(Slot(index, param, lows[-1], len(items)))
    return found


def place_now(system, slot):
    """The place at which a template frees a param now."""
    locks = 0
    for step in system[2][slot.template][3]:
        if step == ("free", slot.param):
            return locks
        if step[0] == "lock":
            locks += 1
    return slot.high


def are_places(slots, places):
    """Whether a value has a place for each slot."""
    if not isinstance(places, (list, tuple)) or len(places) != len(slots):
        return False
    for slot, place in zip(slots, places):
        if not is_integer(place) or not slot.low <= place <= slot.high:
            return False
    return True


def placed_steps(steps, place_of):
    """The lock steps of a template, and frees of its params at their places; `place_of` has them in their order."""
    made = []
    for place, step in enumerate(locks_of(steps)):
        made.extend([("free", param) for param in place_of if place_of[param] == place])
        made.append(step)
    # What is kept to the end is not freed.
    return tuple(made)


def placed(system, slots, places):
    """The system with its params freed at these places."""
    modes, fixed, templates = system
    made = []
    for index, (name, params, orders, steps) in enumerate(templates):
        place_of = {slot.param: place for slot, place in zip(slots, places) if slot.template == index}
        made.append((name, params, orders, placed_steps(steps, place_of)))
    return (modes, fixed, tuple(made))


def most_steps(system, slots):
    """The greatest number of lock steps and slots of a template."""
    most = 0
    for index, template in enumerate(system[2]):
        mine = [slot for slot in slots if slot.template == index]
        most = max(most, len(locks_of(template[3])) + len(mine))
    return most
