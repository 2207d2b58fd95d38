"""Strangers: one instance of a foreign template beside any number of instances of the own ones."""

from stuckrows.bounds import JustOne
from stuckrows.errors import InvalidItem, InvalidMode
from stuckrows.finder import Finder
from stuckrows.modes import ModeTable
from stuckrows.ranks import kinds_of
from stuckrows.templates import check_last_template, check_system, require_rings
from stuckrows.words import is_tuple

ROW_TIES = ("less", "greater", "unlike", "same")
# The params of strangers that are made here; no fixed item is called so.
HELD = "held row"
ASKED = "asked row"


def ring_with(system, stranger):
    """A shortest ring with one stranger, where all has been checked; None if there is none."""
    modes, fixed, templates = system
    finder = Finder((modes, fixed, templates + (stranger,)))
    return finder.ring_among(list(range(len(templates) + 1)), JustOne(len(templates)))


def stranger_ring(system, stranger):
    """A shortest ring in which the stranger, as a last template, stands exactly once; None if there is none."""
    check_system(system)
    check_last_template(system, stranger)
    modes, fixed, templates = system
    require_rings((modes, fixed, templates + (stranger,)))
    return ring_with(system, stranger)


def item_and_params(kind, param):
    """An item of a kind, and the params that it needs."""
    return (param, ((param, kind[0]),)) if isinstance(kind, tuple) else (kind, ())


def stranger_of(held, kind, mode, tie):
    """The template that locks what is held, if there is such a thing, and then an item of a kind in a mode."""
    params = ()
    orders = ()
    steps = ()
    item = None
    if held is not None:
        item, params = item_and_params(held[0], HELD)
        steps = (("lock", item, held[1]),)
    if tie != "same":
        item, more = item_and_params(kind, ASKED)
        params = params + more
    if tie == "less":
        orders = ((ASKED, HELD),)
    if tie == "greater":
        orders = ((HELD, ASKED),)
    return ("", params, orders, steps + (("lock", item, mode),))


def ties_of(held, kind):
    """The ties that what a stranger asks for can have to what it holds."""
    if held is None or held[0] != kind:
        return ("none",)
    return ROW_TIES if isinstance(kind, tuple) else ("same",)


def safe_asks(system, held):
    """The list of all (kind, mode, tie) that a stranger with this hold may ask for without closing a ring."""
    check_system(system)
    kinds = kinds_of(system)
    if held is not None:
        if not is_tuple(held, 2, 2) or held[0] not in kinds:
            raise InvalidItem(held)
        if held[1] not in system[0][0]:
            raise InvalidMode(held[1])
    require_rings(system)
    table = ModeTable(system[0])
    safe = []
    for kind in kinds:
        for mode in system[0][0]:
            for tie in ties_of(held, kind):
                if tie == "same" and table.join_of(held[1], mode) == held[1]:
                    continue
                if ring_with(system, stranger_of(held, kind, mode, tie)) is None:
                    safe.append((kind, mode, tie))
    return safe
