"""Changes of templates: which ones there are, which can be done together, and what comes of them."""

from stuckrows.errors import Mismatch
from stuckrows.forms import MOST_FIXED, MOST_STEPS
from stuckrows.further import go_together, ordered, orders_of
from stuckrows.modes import ModeTable
from stuckrows.words import is_integer

WORDS = ("swap", "whole", "order", "gate")
GATE = "gate"
# How many entries a change has behind its word, the template among them.
SIZES = {"swap": 2, "whole": 2, "order": 3, "gate": 1}


def can_swap(steps, place):
    """Whether the step at a place and the next one can be exchanged."""
    return steps[place][0] == "lock" and steps[place + 1][0] == "lock" and steps[place][1] != steps[place + 1][1]


def whole_mode(table, steps, place):
    """The join of the modes of all lock steps of the item of the step at a place."""
    mode = None
    for step in steps:
        if step[0] == "lock" and step[1] == steps[place][1]:
            mode = table.join_of(mode, step[2])
    return mode


def can_be_whole(table, steps, place):
    """Whether the step at a place is the first lock step of its item, and locks it in less than the join."""
    if steps[place][0] != "lock" or steps[place][1] in [step[1] for step in steps[:place]]:
        return False
    return whole_mode(table, steps, place) != steps[place][2]


def gate_mode(modes):
    """The first mode that does not allow itself, None if there is none."""
    for mode in modes[0]:
        if (mode, mode) not in modes[1]:
            return mode
    return None


def has_room_for_gate(system):
    """Whether a gate can be a fixed item of the system."""
    modes, fixed, templates = system
    params = [param for template in templates for param, _ in template[1]]
    return gate_mode(modes) is not None and len(fixed) < MOST_FIXED and GATE not in params and GATE not in fixed


def all_changes(system):
    """The ascending list of all changes of a system."""
    table = ModeTable(system[0])
    has_room = has_room_for_gate(system)
    found = {word: [] for word in WORDS}
    for index, template in enumerate(system[2]):
        steps = template[3]
        swaps = [place for place in range(len(steps) - 1) if can_swap(steps, place)]
        wholes = [place for place in range(len(steps)) if can_be_whole(table, steps, place)]
        found["swap"].extend([("swap", index, place) for place in swaps])
        found["whole"].extend([("whole", index, place) for place in wholes])
        found["order"].extend([("order",) + order for order in orders_of(template, index)])
        if has_room and len(steps) < MOST_STEPS:
            found["gate"].append(("gate", index))
    return [change for word in WORDS for change in found[word]]


def is_change_form(value):
    """Whether a value can be looked for among changes: its entries are of their kinds."""
    if not isinstance(value, tuple) or not value or not isinstance(value[0], str) or value[0] not in SIZES:
        return False
    if len(value) != SIZES[value[0]] + 1 or not is_integer(value[1]):
        return False
    if value[0] == "swap" or value[0] == "whole":
        return is_integer(value[2])
    return all(isinstance(name, str) for name in value[2:])


def can_be_together(templates, some):
    """Whether changes, none of which stands twice, can be done together."""
    swaps = {change: True for change in some if change[0] == "swap"}
    if any(("swap", change[1], change[2] + 1) in swaps for change in some if change[0] == "swap"):
        return False
    return go_together(templates, [change[1:] for change in some if change[0] == "order"])


def read_changes(system, known, value):
    """The ascending list of the changes that a value is, None if it is none; `known` are all changes."""
    if not isinstance(value, (list, tuple)):
        return None
    places = {change: place for place, change in enumerate(known)}
    found = {}
    for change in value:
        if not is_change_form(change) or change not in places or places[change] in found:
            return None
        found[places[change]] = change
    some = [found[place] for place in sorted(found)]
    return some if can_be_together(system[2], some) else None


def require_changes(system, value):
    """The ascending list of the changes that a value is; raises Mismatch if it is none."""
    some = read_changes(system, all_changes(system), value)
    if some is None:
        raise Mismatch("changes")
    return some


def changed_steps(system, index, some):
    """The steps of a template behind some changes of it."""
    modes, _, templates = system
    table = ModeTable(modes)
    given = templates[index][3]
    steps = list(given)
    for change in some:
        if change[0] == "whole":
            steps[change[2]] = ("lock", given[change[2]][1], whole_mode(table, given, change[2]))
    for change in some:
        if change[0] == "swap":
            place = change[2]
            steps[place], steps[place + 1] = steps[place + 1], steps[place]
    if ("gate", index) in some:
        steps.insert(0, ("lock", GATE, gate_mode(modes)))
    return tuple(steps)


def with_some(system, some):
    """The system behind changes that can be done together, in ascending order."""
    modes, fixed, templates = system
    made = []
    for index, (name, params, orders, _) in enumerate(templates):
        mine = [change for change in some if change[1] == index]
        made.append((name, params, orders, changed_steps(system, index, mine)))
    made = ordered(made, [change[1:] for change in some if change[0] == "order"])
    gated = any(change[0] == "gate" for change in some)
    return (modes, fixed + (GATE,) if gated else fixed, made)
