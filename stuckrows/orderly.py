"""The systems of which disorders speak: those in which nobody is in anybody's way at a fixed item."""

from stuckrows.errors import Mismatch
from stuckrows.modes import ModeTable
from stuckrows.templates import asked_by, asking_steps, check_system, require_rings


def asks_allow_one_another(system):
    """Whether any two asks of positions at one fixed item allow one another, also each itself."""
    table = ModeTable(system[0])
    asks = {name: [] for name in system[1]}
    for template in system[2]:
        for step in asking_steps(table, template[3]):
            item, ask = asked_by(table, template[3], step)
            if item in asks:
                asks[item].append(ask)
    for modes in asks.values():
        if not all(table.allows(one, other) for one in modes for other in modes):
            return False
    return True


def require_orderly(system):
    """Raises Mismatch for a system, one that has been checked, of which disorders do not speak."""
    require_rings(system)
    if not asks_allow_one_another(system):
        raise Mismatch("system")


def check_orderly(system):
    """Raises the errors of a system, and Mismatch for one of which disorders do not speak."""
    check_system(system)
    require_orderly(system)
