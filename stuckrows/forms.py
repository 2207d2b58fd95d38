"""Forms of systems: whether a value is one, and otherwise what is wrong with it first."""

from stuckrows.errors import InvalidSystem, InvalidTemplate
from stuckrows.modes import MOST_MODES, require_modes, wrong_part
from stuckrows.orderings import can_be_fulfilled
from stuckrows.words import are_different_names, are_letters, are_strings

MOST_FIXED = 4
MOST_TEMPLATES = 6
MOST_PARAMS = 4
MOST_STEPS = 8


def are_orders(orders, tables):
    """Whether a tuple can be the orders of a template whose params have these tables."""
    # A list, since a value that is looked for in a dict would have to be hashable.
    names = list(tables)
    for pair in orders:
        if not isinstance(pair, tuple) or len(pair) != 2 or pair[0] not in names or pair[1] not in names:
            return False
        if tables[pair[0]] != tables[pair[1]]:
            return False
    return can_be_fulfilled(orders)


def items_told(template, fixed, words):
    """The list of the items of a value that may be a template, None if it is none.

    Its steps are not looked at here. Puts all that still must be names behind some words.
    """
    if not isinstance(template, tuple) or len(template) != 4:
        return None
    name, params, orders, steps = template
    if not isinstance(name, str) or not isinstance(params, tuple) or len(params) > MOST_PARAMS:
        return None
    if not isinstance(orders, tuple) or not isinstance(steps, tuple) or not 1 <= len(steps) <= MOST_STEPS:
        return None
    words.append(name)
    for pair in params:
        if not isinstance(pair, tuple) or len(pair) != 2:
            return None
        param, table = pair
        if not isinstance(param, str) or not isinstance(table, str):
            return None
        words.extend(pair)
    tables = dict(params)
    items = [*tables, *fixed]
    if len(set(items)) < len(params) + len(fixed):
        return None
    return None if orders and not are_orders(orders, tables) else items


def steps_fit(steps, items, modes):
    """Whether steps of a template with these items can stand there."""
    # For each item that was locked whether it still is.
    held = {}
    for step in steps:
        if not isinstance(step, tuple):
            return False
        if len(step) == 3:
            word, item, mode = step
            if word != "lock" or item not in items or mode not in modes:
                return False
            # It is held, or was never locked before.
            if item in held and not held[item]:
                return False
            held[item] = True
        elif len(step) == 2:
            word, item = step
            if word != "free" or item not in items or item not in held or not held[item]:
                return False
            held[item] = False
        else:
            return False
    return True


def is_system(system):
    """Whether a value is a system, told without looking for what is wrong first."""
    if not isinstance(system, tuple) or len(system) != 3:
        return False
    modes, fixed, templates = system
    if not isinstance(modes, tuple) or len(modes) != 3 or not isinstance(fixed, tuple) or len(fixed) > MOST_FIXED:
        return False
    names = modes[0]
    if not isinstance(names, tuple) or not 1 <= len(names) <= MOST_MODES:
        return False
    if not isinstance(templates, tuple) or not 1 <= len(templates) <= MOST_TEMPLATES:
        return False
    words = [*names, *fixed]
    if not are_strings(words):
        return False
    taken = {}
    for template in templates:
        items = items_told(template, fixed, words)
        if items is None or not steps_fit(template[3], items, names):
            return False
        taken[template[0]] = True
    # All that must be names is looked at in one go.
    if len(taken) < len(templates) or not are_letters(words):
        return False
    return wrong_part(modes) is None


def wrong_place(system, template, taken):
    """What InvalidTemplate tells as the step for a value behind templates with these names; None if it is right."""
    words = []
    items = items_told(template, system[1], words)
    if items is None or not are_letters(words) or template[0] in taken:
        return -1
    steps = template[3]
    for place in range(len(steps)):
        if not steps_fit(steps[:place + 1], items, system[0][0]):
            return place
    return None


def require_system(system):
    """Raises the error that tells what is wrong first with a value, if it is no system."""
    if not isinstance(system, tuple) or len(system) != 3:
        raise InvalidSystem("form")
    modes, fixed, templates = system
    require_modes(modes)
    if not are_different_names(fixed, 0, MOST_FIXED):
        raise InvalidSystem("fixed")
    if not isinstance(templates, tuple) or not 1 <= len(templates) <= MOST_TEMPLATES:
        raise InvalidSystem("templates")
    taken = []
    for index, template in enumerate(templates):
        place = wrong_place(system, template, taken)
        if place is not None:
            raise InvalidTemplate(index, place)
        taken.append(template[0])
