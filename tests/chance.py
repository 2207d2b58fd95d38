"""Systems that are made by chance, always the same ones for the same seed."""

from itertools import product

from stuckrows.modes import check_modes, standard

NAMES = ("a", "b", "c")


def symmetric_modes(count):
    """All symmetric modes with so many names."""
    names = NAMES[:count]
    pairs = [(m, n) for place, n in enumerate(names) for m in names[:place]]
    both = pairs + [(m, m) for m in names]
    found = []
    for flags in product((False, True), repeat=len(both)):
        allowed = []
        for (m, n), flag in zip(both, flags):
            if flag:
                allowed.extend(sorted({(m, n), (n, m)}))
        for joins in product(names, repeat=len(pairs)):
            modes = (names, tuple(allowed), tuple((m, n, j) for (m, n), j in zip(pairs, joins)))
            if check_modes(modes) is None:
                found.append(modes)
    return found


ALL_MODES = [modes for count in (1, 2, 3) for modes in symmetric_modes(count)]


def any_modes(chance):
    """Symmetric modes: the usual ones, or small ones, in which something is forbidden."""
    return standard() if chance.random() < 0.3 else chance.choice(ALL_MODES)


def any_template(chance, name, modes, fixed, sizes):
    """A template with at most so many params and steps, and tables among so many."""
    most_params, most_steps, tables = sizes
    params = tuple((param, chance.choice("tuv"[:tables])) for param in "pqrs"[:chance.randint(0, most_params)])
    orders = []
    for place, (high, table) in enumerate(params):
        for low, other in params[:place]:
            if table == other and chance.random() < 0.4:
                orders.append((low, high) if chance.random() < 0.9 else (high, low))
    if len(set(orders)) > 2:
        orders = []
    items = [param for param, _ in params] + list(fixed)
    return (name, params, tuple(orders), any_steps(chance, items, fixed, modes, most_steps))


def any_steps(chance, items, fixed, modes, most):
    """At most so many steps over these items."""
    steps, held, freed = [], [], []
    for _ in range(chance.randint(1, most)):
        rows = [item for item in held if item not in fixed]
        if rows and chance.random() < 0.12:
            item = chance.choice(rows)
            held.remove(item)
            freed.append(item)
            steps.append(("free", item))
            continue
        choice = [item for item in items if item not in freed]
        if choice:
            item = chance.choice(choice)
            if item not in held:
                held.append(item)
            steps.append(("lock", item, chance.choice(modes[0])))
    return tuple(steps)


def any_system(chance, templates, fixed, sizes):
    """A system with at most so many templates and fixed items."""
    modes = any_modes(chance)
    names = ("f", "g", "h", "k")[:chance.randint(0, fixed)]
    made = []
    for name in ("one", "two", "three", "four", "five", "six")[:chance.randint(1, templates)]:
        template = any_template(chance, name, modes, names, sizes)
        while not template[3]:
            template = any_template(chance, name, modes, names, sizes)
        made.append(template)
    return (modes, names, tuple(made))
