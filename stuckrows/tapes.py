"""Tapes: who took and who freed which items when, while instances do their turns."""


class Tape:
    """A run, and what its instances have taken and freed in it so far."""

    def __init__(self, run):
        self.run = run
        self.time = 0
        # For each instance a dict from the items that it has freed to when, and in which mode it held them.
        self.freed = [{} for _ in run.done]
        # For each instance a dict from the items that it has taken to lists of when, and in which mode.
        self.taken = [{} for _ in run.done]

    def do_turn(self, index):
        """An instance that has a turn does it."""
        run = self.run
        place = run.done[index]
        step = run.steps[index][place] if place < len(run.steps[index]) else None
        held = self.held_by(index)
        granted = run.do_turn(index)
        # What is granted is taken later than that for which it has waited was freed.
        self.time += 1
        for item in held:
            if item not in self.held_by(index):
                self.freed[index][item] = (self.time, held[item])
        self.time += 1
        if step is not None and step[0] == "lock":
            self.keep_taken(index, step[1], held.get(step[1]))
        for other, item in granted:
            self.keep_taken(other, item, None)

    def held_by(self, index):
        """A dict from the items that an instance holds to their modes."""
        held = self.run.grants.held.get(index, {})
        return {item: held[item] for item in held}

    def keep_taken(self, index, item, before):
        """Keeps that an instance holds more of an item now than before, if it does."""
        mode = self.run.grants.held.get(index, {}).get(item)
        if mode != before:
            self.taken[index].setdefault(item, []).append((self.time, mode))

    def is_ahead(self, first, other):
        """Whether one instance is ahead of another one."""
        taken = self.taken[other]
        for item, (time, mode) in self.freed[first].items():
            for later, asked in taken.get(item, []):
                if later > time and not self.run.grants.table.allows(mode, asked):
                    return True
        return False
