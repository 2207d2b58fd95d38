"""Turns: instances that do their steps one after another in a lock table."""

from stuckrows.grants import Grants
from stuckrows.instances import steps_of
from stuckrows.modes import ModeTable
from stuckrows.words import is_index


class Run:
    """Instances that do their turns, one after another."""

    def __init__(self, steps, grants, done):
        self.steps = steps
        self.grants = grants
        # How many turns each instance has done.
        self.done = done

    def has_ended(self, index):
        """Whether an instance has done all its turns."""
        return self.done[index] > len(self.steps[index])

    def waits(self, index):
        """Whether an instance waits."""
        return index in self.grants.asks

    def has_turn(self, value):
        """Whether a value is the index of an instance that has a turn."""
        if not is_index(value, len(self.done)):
            return False
        return value not in self.grants.asks and self.done[value] <= len(self.steps[value])

    def do_turn(self, index):
        """An instance that has a turn does it; the list of (index, item) of the asks of others that it grants."""
        granted = []
        if self.done[index] == len(self.steps[index]):
            granted = self.grants.end(index)
        else:
            step = self.steps[index][self.done[index]]
            if step[0] == "free":
                granted = [(other, step[1]) for other in self.grants.free(index, step[1])]
            elif not self.grants.ask(index, step[1], step[2]):
                return granted
        self.done[index] += 1
        for other, _ in granted:
            self.done[other] += 1
        return granted


def run_of(system, instances):
    """The run of some instances at its beginning."""
    steps = [steps_of(system, instance) for instance in instances]
    return Run(steps, Grants(ModeTable(system[0])), [0] * len(instances))
