"""Systems of templates: their form, and what an instance holds and asks for at each step."""

from stuckrows.errors import InvalidNumber, InvalidSystem, InvalidTemplate, Mismatch
from stuckrows.modes import ModeTable, allow_both_ways, require_modes
from stuckrows.words import are_different_names, are_names, is_index, is_integer, is_name, is_tuple

MOST_FIXED = 4
MOST_TEMPLATES = 6
MOST_PARAMS = 4
MOST_STEPS = 8


def all_less(orders):
    """A dict of True with all pairs of which the first is less, told directly or by way of others."""
    less = {pair: True for pair in orders}
    names = sorted({name for pair in orders for name in pair})
    for middle in names:
        lows = [low for low in names if (low, middle) in less]
        highs = [high for high in names if (middle, high) in less]
        for low in lows:
            for high in highs:
                less[low, high] = True
    return less


def can_be_fulfilled(orders):
    """Whether orders tell of no name that it is less than itself."""
    left = list(orders)
    while left:
        highs = {high: True for _, high in left}
        # What is not greater than anything is in no circle.
        others = [pair for pair in left if pair[0] in highs]
        if len(others) == len(left):
            return False
        left = others
    return True


def are_params(params, fixed):
    """Whether this can be the params of a template."""
    if not is_tuple(params, 0, MOST_PARAMS):
        return False
    names = {}
    for pair in params:
        if not is_tuple(pair, 2, 2) or not are_names(pair) or pair[0] in names or pair[0] in fixed:
            return False
        names[pair[0]] = True
    return True


def are_orders(orders, params):
    """Whether this can be the orders of a template with these params."""
    if not isinstance(orders, tuple):
        return False
    tables = dict(params)
    # A list, since a value that is looked for in a dict would have to be hashable.
    names = list(tables)
    for pair in orders:
        if not is_tuple(pair, 2, 2) or pair[0] not in names or pair[1] not in names:
            return False
        if tables[pair[0]] != tables[pair[1]]:
            return False
    return can_be_fulfilled(orders)


def is_template_form(template, fixed, taken):
    """Whether a value is a template, as far as can be told without looking at its steps."""
    if not is_tuple(template, 4, 4):
        return False
    name, params, orders, steps = template
    if not is_name(name) or name in taken:
        return False
    return are_params(params, fixed) and are_orders(orders, params) and is_tuple(steps, 1, MOST_STEPS)


def is_step(step, items, modes):
    """Whether a value has the form of a step, whatever stands before it."""
    if not isinstance(step, tuple) or len(step) < 2 or step[1] not in items:
        return False
    if step[0] == "lock":
        return len(step) == 3 and step[2] in modes
    return step[0] == "free" and len(step) == 2


def first_wrong_step(template, fixed, modes):
    """The place of the first step that cannot stand there, None if there is none."""
    items = [param for param, _ in template[1]] + list(fixed)
    # For each item that was locked, whether it still is.
    held = {}
    for place, step in enumerate(template[3]):
        if not is_step(step, items, modes):
            return place
        locks = step[0] == "lock"
        # A lock step finds the item held, or never locked before; a free step finds it held.
        if not held.get(step[1], locks):
            return place
        held[step[1]] = locks
    return None


def check_system(system):
    """None if the value is a system; otherwise raises the error that tells why it is not."""
    if not is_tuple(system, 3, 3):
        raise InvalidSystem("form")
    modes, fixed, templates = system
    require_modes(modes)
    if not are_different_names(fixed, 0, MOST_FIXED):
        raise InvalidSystem("fixed")
    if not is_tuple(templates, 1, MOST_TEMPLATES):
        raise InvalidSystem("templates")
    for index in range(len(templates)):
        check_template_at(modes, fixed, templates, index)


def check_template_at(modes, fixed, templates, index):
    """Raises InvalidTemplate if an entry is no template behind the templates before it."""
    taken = [template[0] for template in templates[:index]]
    if not is_template_form(templates[index], fixed, taken):
        raise InvalidTemplate(index, -1)
    place = first_wrong_step(templates[index], fixed, modes[0])
    if place is not None:
        raise InvalidTemplate(index, place)


def frees_fixed(system):
    """Whether a template of a system frees a fixed item."""
    _, fixed, templates = system
    return any(step[0] == "free" and step[1] in fixed for template in templates for step in template[3])


def allows_rings(system):
    """Whether rings speak of a system that has been checked."""
    return allow_both_ways(system[0]) and not frees_fixed(system)


def require_rings(system):
    """Raises Mismatch for a system, one that has been checked, that rings do not speak of."""
    if not allows_rings(system):
        raise Mismatch("system")


def check_ring_system(system):
    """Raises the errors of a system, and Mismatch for one that rings do not speak of."""
    check_system(system)
    require_rings(system)


def held_before(table, steps, step):
    """A dict from the items that are held before a step to their modes."""
    held = {}
    for row in steps[:step]:
        if row[0] == "lock":
            held[row[1]] = table.join_of(held.get(row[1]), row[2])
        else:
            del held[row[1]]
    return held


def asked_by(table, steps, step):
    """The item and the ask of a step, None if it asks for nothing more than is held."""
    row = steps[step]
    if row[0] == "free":
        return None
    held = held_before(table, steps, step).get(row[1])
    ask = table.join_of(held, row[2])
    return None if ask == held else (row[1], ask)


def asking_steps(table, steps):
    """The list of the places of the steps that ask for more than is held."""
    held = {}
    places = []
    for place, row in enumerate(steps):
        # What was freed is not locked again, so it may stay there.
        if row[0] == "lock":
            before = held.get(row[1])
            held[row[1]] = table.join_of(before, row[2])
            if held[row[1]] != before:
                places.append(place)
    return places


def are_keys(template, keys):
    """Whether a value is the keys of an instance of a template."""
    params = template[1]
    if not is_tuple(keys, len(params), len(params)) or not all(is_integer(key) for key in keys):
        return False
    rows = [(table, key) for (_, table), key in zip(params, keys)]
    if len(set(rows)) != len(rows):
        return False
    key_of = {param: key for (param, _), key in zip(params, keys)}
    return all(key_of[low] < key_of[high] for low, high in template[2])


def check_place(system, template, step, beyond):
    """Raises the errors of a system and of a step; `beyond` is 1 where the end counts as a step."""
    check_template(system, template)
    if not is_index(step, len(system[2][template][3]) + beyond):
        raise InvalidNumber("step")


def check_template(system, template):
    """Raises the errors of a system and of the index of a template."""
    check_system(system)
    if not is_index(template, len(system[2])):
        raise InvalidNumber("template")


def positions(system):
    """The ascending list of all (template, step) at which more is asked for than is held."""
    check_system(system)
    table = ModeTable(system[0])
    found = []
    for index, template in enumerate(system[2]):
        found.extend([(index, step) for step in asking_steps(table, template[3])])
    return found


def held_at(system, template, step):
    """A dict from the items that the template holds before the step to their modes."""
    check_place(system, template, step, 1)
    return held_before(ModeTable(system[0]), system[2][template][3], step)


def asked_at(system, template, step):
    """The item and the ask of the step, None if it asks for nothing more than is held."""
    check_place(system, template, step, 0)
    return asked_by(ModeTable(system[0]), system[2][template][3], step)


def lesser(system, template):
    """The ascending list of all pairs of params of the template of which the first is less."""
    check_template(system, template)
    return sorted(all_less(system[2][template][2]))
