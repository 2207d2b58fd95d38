"""Spots: the positions of a system, each with all that rings ask about it."""

from stuckrows.modes import ModeTable
from stuckrows.orderings import all_less
from stuckrows.templates import asked_by, asking_steps, held_before

# How an item that a member holds stands to the one that it asks for: it is the same
# one; or a row of the same table of which it is told that its key is less or greater;
# or it is only unlike.
TIES = ("less", "greater", "unlike", "same")


class Spot:
    """A position: what a member there holds, what it has freed, and what it asks for."""

    def __init__(self, template, step, steps, table):
        self.template = template
        self.step = step
        self.asked, self.ask = asked_by(table, steps, step)
        self.held = held_before(table, steps, step)
        self.own = self.held.get(self.asked)
        self.freed = [row[1] for row in steps[:step] if row[0] == "free"]
        # The table of each item that is a row, None for fixed items.
        self.tables = {}
        # For each held item how it stands to the asked one.
        self.ties = {}

    def kind_of(self, item):
        """What the item can be one with: the fixed item, or a table of rows."""
        table = self.tables[item]
        return item if table is None else (table,)


def tie_between(spot, item, less):
    """How a held item stands to the asked one."""
    if item == spot.asked:
        return "same"
    if (item, spot.asked) in less:
        return "less"
    return "greater" if (spot.asked, item) in less else "unlike"


def spots_of(system):
    """The list of the spots of a system, in the order of its positions."""
    modes, fixed, templates = system
    table = ModeTable(modes)
    spots = []
    for index, template in enumerate(templates):
        _, params, orders, steps = template
        less = all_less(orders)
        for step in asking_steps(table, steps):
            spot = Spot(index, step, steps, table)
            spot.tables = {**dict(params), **{name: None for name in fixed}}
            spot.ties = {item: tie_between(spot, item, less) for item in spot.held}
            spots.append(spot)
    return spots
