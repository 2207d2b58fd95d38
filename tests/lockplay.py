"""The lock table and the runs of instances, as stages 2 and 4 of the document tell them, without the package."""

from brute import Plain


class PlainTable:
    """Who holds what, and who waits for what."""

    def __init__(self, plain):
        self.plain = plain
        self.held = {}
        self.conversions = {}
        self.queue = {}
        self.waiting = {}

    def allowed(self, owner, item, ask):
        others = [mode for other, mode in self.held.get(item, {}).items() if other != owner]
        return all((mode, ask) in self.plain.allowed for mode in others)

    def ask(self, owner, item, mode):
        held = self.held.setdefault(item, {}).get(owner)
        ask = self.plain.join(held, mode)
        if ask == held:
            return True
        conversions = self.conversions.setdefault(item, [])
        queue = self.queue.setdefault(item, [])
        if held is not None:
            if self.allowed(owner, item, ask):
                self.held[item][owner] = ask
                return True
            conversions.append(owner)
        else:
            if self.allowed(owner, item, ask) and not conversions and not queue:
                self.held[item][owner] = ask
                return True
            queue.append(owner)
        self.waiting[owner] = (item, ask)
        return False

    def grant(self, owner, item):
        self.held[item][owner] = self.waiting.pop(owner)[1]
        return owner

    def free(self, owner, item):
        del self.held[item][owner]
        granted = []
        conversions, queue = self.conversions.get(item, []), self.queue.get(item, [])
        for other in list(conversions):
            if self.allowed(other, item, self.waiting[other][1]):
                conversions.remove(other)
                granted.append(self.grant(other, item))
        while not conversions and queue and self.allowed(queue[0], item, self.waiting[queue[0]][1]):
            granted.append(self.grant(queue.pop(0), item))
        return granted

    def end(self, owner):
        granted = []
        for item in list(self.held):
            if owner in self.held[item]:
                granted.extend(self.free(owner, item))
        return granted

    def waits_for(self, owner):
        if owner not in self.waiting:
            return set()
        item, ask = self.waiting[owner]
        found = {other for other, mode in self.held[item].items() if (mode, ask) not in self.plain.allowed}
        if owner in self.queue[item]:
            found.update(self.conversions[item])
            found.update(self.queue[item][:self.queue[item].index(owner)])
        return found - {owner}

    def stuck(self):
        found = set(self.waiting)
        while True:
            left = {owner for owner in found if self.waits_for(owner) & found}
            if left == found:
                return found
            found = left


class PlainRun:
    """Instances that do their turns."""

    def __init__(self, system, instances):
        self.plain = Plain(system)
        self.table = PlainTable(self.plain)
        self.instances = instances
        self.done = [0] * len(instances)

    def steps(self, index):
        return self.plain.templates[self.instances[index][0]][3]

    def with_turn(self):
        return [
            index for index in range(len(self.done))
            if index not in self.table.waiting and self.done[index] <= len(self.steps(index))
        ]

    def turn(self, index):
        assert index in self.with_turn()
        template, keys = self.instances[index]
        granted = []
        if self.done[index] == len(self.steps(index)):
            granted = self.table.end(index)
        else:
            step = self.steps(index)[self.done[index]]
            item = self.plain.item(template, keys, step[1])
            if step[0] == "free":
                granted = self.table.free(index, item)
            elif not self.table.ask(index, item, step[2]):
                return
        self.done[index] += 1
        for other in granted:
            self.done[other] += 1

    def state(self):
        table = self.table
        rows = [
            (str(item), tuple(table.conversions.get(item, [])), tuple(table.queue.get(item, [])))
            for item in table.held
        ]
        return (tuple(self.done), tuple(sorted(rows)))


def behind(system, instances, schedule):
    """The run behind a schedule."""
    run = PlainRun(system, instances)
    for index in schedule:
        run.turn(index)
    return run


def can_get_stuck(system, instances):
    """Whether behind some schedule some of these instances are stuck: all schedules are tried."""
    seen = set()
    todo = [()]
    while todo:
        schedule = todo.pop()
        run = behind(system, instances, schedule)
        if run.table.stuck():
            return True
        if run.state() not in seen:
            seen.add(run.state())
            todo.extend(schedule + (index,) for index in run.with_turn())
    return False
