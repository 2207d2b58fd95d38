"""Disorders: an instance that is halted behind a free step, and others that go by it.

The others are looked for from the last one on. Each has a row that the one behind it
takes, too, and a row for which the one before it is ahead; so there is a way over
EXITS, params of templates, from the row that the halted instance takes last back to
one that it has freed. Keys that nothing binds can always be taken apart from all
others. As in the search for a ring, the ties around all rows leave keys if a way is
LOOSE; and where it still is at the first row, what is taken there must go together
with what the halted instance holds there.
"""

from stuckrows.bitsets import bits
from stuckrows.members import keys_for
from stuckrows.modes import ModeTable
from stuckrows.orderings import all_less
from stuckrows.search import TIED_BY
from stuckrows.templates import asking_steps, held_before

# Where a way is: still at the row that is taken last, or beyond it and tied, or loose.
HERE = 0
TIED = 1
LOOSE = 2


class Exit:
    """A param that a template locks, and the mode in which an instance holds it at last."""

    def __init__(self, template, param, table, mode):
        self.template = template
        self.param = param
        self.table = table
        self.mode = mode


class Halt:
    """An instance that is halted directly behind a free step, with the exits that it has freed and takes later."""

    def __init__(self, turns, freed, later, held):
        self.turns = turns
        self.freed = freed
        self.later = later
        # The mode in which it holds then what it takes later, None if it does not.
        self.held = held


def final_modes(table, template):
    """A dict from the params that a template locks to the modes in which it holds them at last."""
    modes = {}
    names = [param for param, _ in template[1]]
    for step in template[3]:
        if step[0] == "lock" and step[1] in names:
            modes[step[1]] = table.join_of(modes.get(step[1]), step[2])
    return modes


class Ways:
    """The exits of a system, and which of them can follow which; where params are freed does not matter for them."""

    def __init__(self, system):
        self.table = ModeTable(system[0])
        self.templates = system[2]
        self.less = [all_less(template[2]) for template in system[2]]
        self.exits = []
        for index, template in enumerate(system[2]):
            modes = final_modes(self.table, template)
            locked = [(param, table) for param, table in template[1] if param in modes]
            self.exits.extend([Exit(index, param, table, modes[param]) for param, table in locked])
        # For each exit the set of those that cannot be held by others at the same row.
        self.against = [self.those_against(one) for one in self.exits]
        # For each exit a dict from those of the same template to how it stands to them.
        self.ties = [self.ties_of(place, one) for place, one in enumerate(self.exits)]

    def those_against(self, one):
        """The set of the exits that do not allow one at its row."""
        found = 0
        for place, other in enumerate(self.exits):
            if other.table == one.table and not self.table.allows(one.mode, other.mode):
                found |= 1 << place
        return found

    def place_of(self, template, param):
        """The place of an exit."""
        for place, one in enumerate(self.exits):
            if one.template == template and one.param == param:
                return place
        return None

    def ties_of(self, place, one):
        """A dict from the exits of the template of one to how this one stands to them."""
        less = self.less[one.template]
        ties = {}
        for at, other in enumerate(self.exits):
            if at == place:
                ties[at] = "same"
            elif other.template == one.template:
                is_greater = (other.param, one.param) in less
                ties[at] = "less" if (one.param, other.param) in less else "greater" if is_greater else "unlike"
        return ties

    def going_with(self, held):
        """The set of the exits that others may hold at a row that is held so."""
        found = 0
        for place, one in enumerate(self.exits):
            if self.table.allows(held, one.mode):
                found |= 1 << place
        return found

    def halts(self, templates):
        """The list of all halts in templates that differ from those of the system in their free steps only."""
        found = []
        for index, template in enumerate(templates):
            steps = template[3]
            for place, step in enumerate(steps):
                if step[0] == "free":
                    found.extend(self.halts_behind(index, template, place))
        return found

    def halts_behind(self, index, template, place):
        """The list of the halts behind one free step."""
        steps = template[3]
        held = held_before(self.table, steps, place + 1)
        names = [param for param, _ in template[1]]
        later = [steps[at][1] for at in asking_steps(self.table, steps) if at > place and steps[at][1] in names]
        freed = self.place_of(index, steps[place][1])
        taken = [name for name in names if name in later]
        return [Halt(place + 1, freed, self.place_of(index, name), held.get(name)) for name in taken]


def kind_behind(kind, tie, first):
    """Where a way is behind one more tie, if the halted instance has the first one."""
    if tie == "same" or kind == LOOSE:
        return kind
    return TIED if tie in TIED_BY[first] else LOOSE


def way_back(states, at):
    """The list of the (entry, exit) on the way to a state, the first ones first."""
    way = []
    while at >= 0:
        way.append(states[at][2:4])
        at = states[at][4]
    return way[::-1]


def shortest_way(ways, halt, most):
    """The (entry, exit) of as few others as can go by a halt, the last one first; None if they are more than `most`."""
    first = ways.ties[halt.freed][halt.later]
    beside = ways.going_with(halt.held)
    # Where the way is, its exit, the entry and the exit of the last one, the state before, how many there are.
    states = [(HERE, halt.later, None, None, -1, 0)]
    seen = {}
    at = 0
    while at < len(states) and states[at][5] < most:
        kind, last = states[at][:2]
        entries = ways.against[last] & beside if kind == HERE else ways.against[last]
        for entry in bits(entries):
            for place, tie in ways.ties[entry].items():
                here = (kind_behind(kind, tie, first), place)
                if here in seen:
                    continue
                seen[here] = True
                states.append(here + (entry, place, at, states[at][5] + 1))
                if here[0] == LOOSE and ways.against[halt.freed] >> place & 1:
                    return way_back(states, len(states) - 1)[1:]
        at += 1
    return None


def disorder_of(ways, halt, way):
    """The disorder of a halt and a way of others by it."""
    head = ways.exits[halt.later]
    bound = []
    row = 0
    for entry, place in way:
        rows = {ways.exits[entry].param: row}
        if place != entry:
            row += 1
            rows[ways.exits[place].param] = row
        bound.append(rows)
    bound.append({head.param: 0, ways.exits[halt.freed].param: row})
    indexes = [ways.exits[entry].template for entry, _ in way] + [head.template]
    keys = keys_for([ways.templates[index] for index in indexes], bound)
    instances = list(zip(indexes, keys))
    return (instances[::-1], halt.turns)


def disorder_in(ways, templates):
    """A disorder of as few instances as possible of such templates, None if there is none."""
    best = None
    most = 3 * len(ways.exits) + 1
    for halt in ways.halts(templates):
        way = shortest_way(ways, halt, most)
        if way is not None:
            best = (halt, way)
            most = len(way) - 1
    if best is None:
        return None
    halt, way = best
    return disorder_of(ways, halt, way)


def find_disorder(system):
    """A disorder of a system with as few instances as possible, where all has been checked; None if there is none."""
    return disorder_in(Ways(system), system[2])
