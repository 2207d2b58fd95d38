"""The lock table and the runs of instances, as stages 2 and 4 of the document tell them, without the package."""

from copy import copy
from itertools import combinations, permutations

from brute import Plain


class PlainTable:
    """Who holds what, in the order of locking, and who waits for what, in the order of asking."""

    def __init__(self, modes):
        _, self.allowed, joins = modes
        self.joins = {frozenset(row[:2]): row[2] for row in joins}
        self.holds = []
        self.waiting = []

    def mode(self, owner, item):
        found = [mode for one, other, mode in self.holds if (one, other) == (owner, item)]
        return found[0] if found else None

    def waits(self, owner):
        return any(one == owner for one, _, _ in self.waiting)

    def allows(self, owner, item, ask):
        return all((mode, ask) in self.allowed for one, at, mode in self.holds if at == item and one != owner)

    def at(self, item):
        """The conversions and the queue of an item, as lists of (owner, item, ask)."""
        here = [row for row in self.waiting if row[1] == item]
        conversions = [row for row in here if self.mode(row[0], item) is not None]
        return conversions, [row for row in here if row not in conversions]

    def give(self, owner, item, mode):
        if self.mode(owner, item) is None:
            self.holds.append((owner, item, mode))
        else:
            self.holds = [row if row[:2] != (owner, item) else (owner, item, mode) for row in self.holds]

    def ask(self, owner, item, mode):
        held = self.mode(owner, item)
        ask = mode if held in (None, mode) else self.joins[frozenset((held, mode))]
        if ask == held:
            return True
        first = held is not None or self.at(item) == ([], [])
        if first and self.allows(owner, item, ask):
            self.give(owner, item, ask)
            return True
        self.waiting.append((owner, item, ask))
        return False

    def look(self, item):
        """Grants what can be granted at an item where something was freed."""
        granted = []
        for row in self.at(item)[0]:
            if self.allows(*row):
                self.waiting.remove(row)
                self.give(*row)
                granted.append(row[:2])
        conversions, queue = self.at(item)
        if not conversions:
            for row in queue:
                if not self.allows(*row):
                    break
                self.waiting.remove(row)
                self.give(*row)
                granted.append(row[:2])
        return granted

    def free(self, owner, item):
        self.holds = [row for row in self.holds if row[:2] != (owner, item)]
        return self.look(item)

    def end(self, owner):
        granted = []
        for row in [row for row in self.waiting if row[0] == owner]:
            self.waiting.remove(row)
            granted += self.look(row[1])
        for _, item, _ in [row for row in self.holds if row[0] == owner]:
            granted += self.free(owner, item)
        return granted

    def waits_for(self, owner):
        for one, item, ask in self.waiting:
            if one == owner:
                found = {other for other, at, mode in self.holds if at == item and (mode, ask) not in self.allowed}
                if self.mode(owner, item) is None:
                    conversions, queue = self.at(item)
                    found |= {row[0] for row in conversions}
                    found |= {row[0] for row in queue[:queue.index((one, item, ask))]}
                return found - {owner}
        return set()

    def stuck(self):
        found = {owner for owner, _, _ in self.waiting}
        while True:
            left = {owner for owner in found if self.waits_for(owner) & found}
            if left == found:
                return found
            found = left

    def ring(self):
        """The shortest, then least row of owners that wait for one another; all rows are tried."""
        stuck = sorted(self.stuck())
        for count in range(2, len(stuck) + 1):
            for row in permutations(stuck, count):
                if row[0] == min(row) and all(b in self.waits_for(a) for a, b in zip(row, row[1:] + row[:1])):
                    return list(row)
        return None

    def copied(self):
        other = copy(self)
        other.holds, other.waiting = list(self.holds), list(self.waiting)
        return other

    def without(self, owners):
        """A copy of this table in which these owners have been ended, in this order."""
        other = self.copied()
        for owner in owners:
            other.end(owner)
        return other

    def helpful(self, owners):
        """All sets of some owners, as ascending tuples, whose end leaves nobody stuck, in whatever order."""
        found = []
        for count in range(len(owners) + 1):
            for some in combinations(sorted(owners), count):
                helps = {not self.without(row).stuck() for row in permutations(some)}
                assert len(helps) == 1, "the order must not matter"
                if helps == {True}:
                    found.append(some)
        return found

    def victims(self, prices):
        """The cheapest, shortest, least list of owners of those with a price whose end leaves nobody stuck."""
        found = [(sum(prices[owner] for owner in some), len(some), list(some)) for some in self.helpful(prices)]
        return min(found)[2]

    def cheapest(self, prices):
        """The least sum of prices of such owners."""
        return min(sum(prices[owner] for owner in some) for some in self.helpful(prices))


class PlainRun:
    """Instances that do their turns."""

    def __init__(self, system, instances):
        self.plain = Plain(system)
        self.table = PlainTable(system[0])
        self.instances = instances
        self.done = [0] * len(instances)

    def after(self, index):
        """A copy of this run in which an instance has done one more turn."""
        other = copy(self)
        other.table, other.done = self.table.copied(), list(self.done)
        other.turn(index)
        return other

    def steps(self, index):
        return self.plain.templates[self.instances[index][0]][3]

    def ended(self, index):
        return self.done[index] == len(self.steps(index)) + 1

    def with_turn(self):
        return [
            index for index in range(len(self.done)) if not self.table.waits(index) and not self.ended(index)
        ]

    def turn(self, index):
        assert index in self.with_turn()
        template, keys = self.instances[index]
        granted = []
        if self.done[index] == len(self.steps(index)):
            granted = self.table.end(index)
        else:
            step = self.steps(index)[self.done[index]]
            item = self.plain.item(template, keys, step[1])
            if step[0] == "free":
                granted = self.table.free(index, item)
            elif not self.table.ask(index, item, step[2]):
                return
        self.done[index] += 1
        for other, _ in granted:
            self.done[other] += 1

    def state(self):
        items = {row[1] for row in self.table.waiting}
        rows = {item: tuple([row[0] for row in part] for part in self.table.at(item)) for item in items}
        return (tuple(self.done), str(sorted(rows.items(), key=str)))


def behind(system, instances, schedule):
    """The run behind a schedule."""
    run = PlainRun(system, instances)
    for index in schedule:
        run.turn(index)
    return run


def can_get_stuck(system, instances):
    """Whether behind some schedule some of these instances are stuck: all schedules are tried."""
    return any(run.table.stuck() for run in all_states(system, instances))


def all_states(system, instances):
    """A run for each state to which schedules lead, one after another."""
    seen = set()
    todo = [PlainRun(system, instances)]
    while todo:
        run = todo.pop()
        if run.state() not in seen:
            seen.add(run.state())
            todo.extend(run.after(index) for index in run.with_turn())
            yield run


def all_schedules(system, instances, calm=False):
    """All schedules there are, or those in which nobody ever waits, each with the run behind it.

    Shorter ones come first, then they ascend.
    """
    layer = [((), PlainRun(system, instances))]
    found = []
    while layer:
        found += layer
        layer = [(schedule + (index,), run.after(index)) for schedule, run in layer for index in run.with_turn()]
        if calm:
            layer = [(schedule, run) for schedule, run in layer if not run.table.waiting]
    return found


def plain_tape(system, instances, schedule):
    """The lists of (time, instance, item, mode) of what is freed and what is taken behind a schedule."""
    run = PlainRun(system, instances)
    freed, taken = [], []
    for place, index in enumerate(schedule):
        before = list(run.table.holds)
        run.turn(index)
        left = {row[:2] for row in run.table.holds}
        freed += [(2 * place,) + row for row in before if row[:2] not in left]
        taken += [(2 * place + 1,) + row for row in run.table.holds if row not in before]
    return freed, taken


def plain_pairs(system, instances, schedule):
    """The ascending list of the pairs of which the first is ahead of the other one."""
    freed, taken = plain_tape(system, instances, schedule)
    return sorted({
        (first, other)
        for time, first, item, mode in freed for later, other, what, asked in taken
        if what == item and later > time and (mode, asked) not in system[0][1]
    })


def plain_order(size, pairs):
    """The least row of all instances in which each stands before those that it is ahead of."""
    for row in permutations(range(size)):
        if all(row.index(first) < row.index(other) for first, other in pairs):
            return list(row)
    return None
