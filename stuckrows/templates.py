"""Systems of templates: their form, and what an instance holds and asks for at each step."""

from stuckrows.errors import InvalidNumber, InvalidTemplate, Mismatch
from stuckrows.forms import is_system, require_system, wrong_place
from stuckrows.modes import Joins, allow_both_ways
from stuckrows.orderings import all_less
from stuckrows.words import is_index


def check_system(system):
    """None if the value is a system; otherwise raises the error that tells why it is not."""
    if not is_system(system):
        require_system(system)


def check_last_template(system, template):
    """Raises InvalidTemplate if a value is no further, last template of a system that has been checked."""
    place = wrong_place(system, template, [name for name, _, _, _ in system[2]])
    if place is not None:
        raise InvalidTemplate(len(system[2]), place)


def allows_rings(system):
    """Whether rings speak of a system that has been checked."""
    return allow_both_ways(system[0]) and not frees_fixed(system)


def require_rings(system):
    """Raises Mismatch for a system, one that has been checked, that rings do not speak of."""
    if not allows_rings(system):
        raise Mismatch("system")


def check_ring_system(system):
    """Raises the errors of a system, and Mismatch for one that rings do not speak of."""
    check_system(system)
    require_rings(system)


def frees_fixed(system):
    """Whether a template of a system frees a fixed item."""
    _, fixed, templates = system
    return any(step[0] == "free" and step[1] in fixed for template in templates for step in template[3])


def held_before(table, steps, step):
    """A dict from the items that are held before a step to their modes."""
    held = {}
    for row in steps[:step]:
        if len(row) == 2:
            del held[row[1]]
            continue
        _, item, mode = row
        held[item] = table.join_of(held[item], mode) if item in held else mode
    return held


def asked_by(table, steps, step):
    """The item and the ask of a step, None if it asks for nothing more than is held."""
    row = steps[step]
    if len(row) == 2:
        return None
    _, item, mode = row
    held = None
    for other in steps[:step]:
        # What was freed is not locked again.
        if other[1] == item:
            held = table.join_of(held, other[2])
    ask = table.join_of(held, mode)
    return None if ask == held else (item, ask)


def asking_steps(table, steps):
    """The list of the places of the steps that ask for more than is held."""
    held = {}
    places = []
    for place, row in enumerate(steps):
        # What was freed is not locked again, so it may stay there.
        if len(row) == 3:
            _, item, mode = row
            if item not in held:
                held[item] = mode
                places.append(place)
                continue
            before = held[item]
            held[item] = table.join_of(before, mode)
            if held[item] != before:
                places.append(place)
    return places


def are_keys(template, keys):
    """Whether a value is the keys of an instance of a template."""
    params = template[1]
    if not isinstance(keys, tuple) or len(keys) != len(params):
        return False
    for key in keys:
        if not isinstance(key, int) or isinstance(key, bool):
            return False
    if len(set(keys)) < len(keys) and len(set([(row[1], key) for row, key in zip(params, keys)])) < len(keys):
        return False
    if not template[2]:
        return True
    key_of = {row[0]: key for row, key in zip(params, keys)}
    for low, high in template[2]:
        if key_of[low] >= key_of[high]:
            return False
    return True


def check_place(system, template, step, beyond):
    """Raises the errors of a system and of a step; `beyond` is 1 where the end counts as a step."""
    check_template(system, template)
    if not is_index(step, len(system[2][template][3]) + beyond):
        raise InvalidNumber("step")


def check_template(system, template):
    """Raises the errors of a system and of the index of a template."""
    check_system(system)
    if not is_index(template, len(system[2])):
        raise InvalidNumber("template")


def positions(system):
    """The ascending list of all (template, step) at which more is asked for than is held."""
    check_system(system)
    table = Joins(system[0])
    found = []
    for index, template in enumerate(system[2]):
        found.extend([(index, step) for step in asking_steps(table, template[3])])
    return found


def held_at(system, template, step):
    """A dict from the items that the template holds before the step to their modes."""
    check_place(system, template, step, 1)
    return held_before(Joins(system[0]), system[2][template][3], step)


def asked_at(system, template, step):
    """The item and the ask of the step, None if it asks for nothing more than is held."""
    check_place(system, template, step, 0)
    return asked_by(Joins(system[0]), system[2][template][3], step)


def lesser(system, template):
    """The ascending list of all pairs of params of the template of which the first is less."""
    check_template(system, template)
    return sorted(all_less(system[2][template][2]))
