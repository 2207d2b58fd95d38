"""Levels: intention locks at tables ahead of rows, and whole tables in place of many rows."""

from stuckrows.errors import Mismatch, TooLarge
from stuckrows.finder import find_ring
from stuckrows.forms import MOST_FIXED, MOST_STEPS
from stuckrows.modes import ModeTable
from stuckrows.templates import check_ring_system
from stuckrows.words import is_integer, is_tuple


def tables_of(system):
    """The ascending list of the tables of all params."""
    return sorted({table for template in system[2] for _, table in template[1]})


def row_modes(system):
    """A dict of True with the modes that steps have with params."""
    found = {}
    for _, params, _, steps in system[2]:
        names = [param for param, _ in params]
        for step in steps:
            if step[0] == "lock" and step[1] in names:
                found[step[2]] = True
    return found


def are_levels(system, levels):
    """Whether a value is levels of a system that have all modes of its rows."""
    if not isinstance(levels, tuple):
        return False
    names = system[0][0]
    taken = {}
    for level in levels:
        if not is_tuple(level, 3, 3) or not all(mode in names for mode in level) or level[0] in taken:
            return False
        taken[level[0]] = True
    return all(mode in taken for mode in row_modes(system))


def check_levels(system, levels):
    """Raises what can_be_stuck raises, and Mismatch if levels do not fit, or tables cannot be fixed items."""
    check_ring_system(system)
    if not are_levels(system, levels):
        raise Mismatch("levels")
    tables = tables_of(system)
    names = list(system[1])
    for template in system[2]:
        names.extend([param for param, _ in template[1]])
    if any(table in names for table in tables) or len(tables) + len(system[1]) > MOST_FIXED:
        raise Mismatch("fixed")


class Rewriting:
    """The steps of a template as they become, one after another."""

    def __init__(self, table, params, levels):
        self.table = table
        self.tables = dict(params)
        self.intentions = {mode: intention for mode, intention, _ in levels}
        self.wholes = {mode: whole for mode, _, whole in levels}
        self.steps = []
        # For each table in which mode it is held as a whole.
        self.held = {}
        # For each table the params that were locked so far in the given steps, and the join of their whole modes.
        self.locked = {}
        self.joins = {}
        # The params that are locked in the steps as they become.
        self.kept = {}

    def hold(self, name, mode):
        """A step that locks a table, if it is not held in a mode that covers this one."""
        held = self.held.get(name)
        both = self.table.join_of(held, mode)
        if both != held:
            self.held[name] = both
            self.steps.append(("lock", name, mode))

    def lock_row(self, step, counts):
        """What becomes of a step that locks a param."""
        _, param, mode = step
        name = self.tables[param]
        self.locked.setdefault(name, {})[param] = True
        self.joins[name] = self.table.join_of(self.joins.get(name), self.wholes[mode])
        # What was locked does not grow less, so all later steps find so many params, too.
        if name in counts and len(self.locked[name]) >= counts[name]:
            self.hold(name, self.joins[name])
        else:
            self.hold(name, self.intentions[mode])
            self.steps.append(step)
            self.kept[param] = True

    def take(self, step, counts):
        """What becomes of a step."""
        if step[1] not in self.tables:
            self.steps.append(step)
        elif step[0] == "lock":
            self.lock_row(step, counts)
        elif step[1] in self.kept:
            self.steps.append(step)


def rewritten(system, levels, counts):
    """The system with intentions, and whole tables from these counts of params on."""
    modes, fixed, templates = system
    table = ModeTable(modes)
    made = []
    for name, params, orders, steps in templates:
        rewriting = Rewriting(table, params, levels)
        for step in steps:
            rewriting.take(step, counts)
        if len(rewriting.steps) > MOST_STEPS:
            raise TooLarge(MOST_STEPS)
        made.append((name, params, orders, tuple(rewriting.steps)))
    return (modes, fixed + tuple(tables_of(system)), tuple(made))


def spread(system, levels):
    """The system in which tables are locked in intention modes ahead of their rows."""
    check_levels(system, levels)
    return rewritten(system, levels, {})


def are_counts(system, counts):
    """Whether a value is a dict from some tables to integers of at least 1."""
    if not isinstance(counts, dict):
        return False
    tables = tables_of(system)
    return all(table in tables and is_integer(count) and count >= 1 for table, count in counts.items())


def escalated(system, levels, counts):
    """What spread returns, with a table in place of its params from the counted one on."""
    check_levels(system, levels)
    if not are_counts(system, counts):
        raise Mismatch("counts")
    return rewritten(system, levels, counts)


def most_locked(system, table):
    """The greatest number of different params of a table that a template locks."""
    most = 0
    for _, params, _, steps in system[2]:
        names = [param for param, other in params if other == table]
        most = max(most, len({step[1] for step in steps if step[0] == "lock" and step[1] in names}))
    return most


def bad_counts(system, levels):
    """For each table a dict from the counts with which instances can be stuck to the fewest that can be."""
    check_levels(system, levels)
    rewritten(system, levels, {})
    found = {}
    for table in tables_of(system):
        found[table] = {}
        for count in range(1, most_locked(system, table) + 1):
            ring = find_ring(rewritten(system, levels, {table: count}))
            if ring is not None:
                found[table][count] = len(ring)
    return found
