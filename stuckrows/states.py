"""States: where schedules of some instances can lead."""

from stuckrows.errors import TooLarge
from stuckrows.grants import Grants
from stuckrows.instances import steps_of
from stuckrows.modes import ModeTable

MOST_STATES = 2000


class Run:
    """Instances that do their turns, one after another."""

    def __init__(self, steps, grants, done):
        self.steps = steps
        self.grants = grants
        # How many turns each instance has done.
        self.done = done

    def has_ended(self, index):
        """Whether an instance has done all its turns."""
        return self.done[index] > len(self.steps[index])

    def waits(self, index):
        """Whether an instance waits."""
        return index in self.grants.asks

    def with_turn(self):
        """The ascending list of the instances that have a turn."""
        return [index for index in range(len(self.done)) if not self.waits(index) and not self.has_ended(index)]

    def do_turn(self, index):
        """An instance that has a turn does it; the list of (index, item) of the asks of others that it grants."""
        granted = []
        if self.done[index] == len(self.steps[index]):
            granted = self.grants.end(index)
        else:
            step = self.steps[index][self.done[index]]
            if step[0] == "free":
                granted = [(other, step[1]) for other in self.grants.free(index, step[1])]
            elif not self.grants.ask(index, step[1], step[2]):
                return granted
        self.done[index] += 1
        for other, _ in granted:
            self.done[other] += 1
        return granted

    def copied(self):
        """A run that stands as this one does."""
        return Run(self.steps, self.grants.copied(), list(self.done))

    def key(self):
        """A tuple that is the same for the same state only."""
        places = []
        for index in range(len(self.done)):
            waiting = self.waits(index)
            places.append(self.grants.waiters(self.grants.asks[index][0]).index(index) if waiting else -1)
        return (tuple(self.done), tuple(places))


class State:
    """A run with the turns by which others lead to it and it leads to others."""

    def __init__(self, run, before, by):
        self.run = run
        # The state before it, and the instance whose turn leads from there, on the least schedule that leads here.
        self.before = before
        self.by = by
        # A dict from the instances that have a turn to the numbers of the states to which it leads.
        self.moves = {}

    def is_calm(self):
        """Whether nobody waits."""
        return not self.run.grants.asks


def run_of(system, instances):
    """The run of some instances at its beginning."""
    steps = [steps_of(system, instance) for instance in instances]
    return Run(steps, Grants(ModeTable(system[0])), [0] * len(instances))


def states_of(system, instances):
    """The list of all states, those that fewer turns lead to first, of these those of lesser schedules."""
    start = run_of(system, instances)
    states = [State(start, -1, -1)]
    numbers = {start.key(): 0}
    at = 0
    while at < len(states):
        here = states[at]
        ready = here.run.with_turn()
        for index in ready:
            run = here.run.copied()
            run.do_turn(index)
            key = run.key()
            if key not in numbers:
                if len(states) == MOST_STATES:
                    raise TooLarge(MOST_STATES)
                numbers[key] = len(states)
                states.append(State(run, at, index))
            here.moves[index] = numbers[key]
        at += 1
    return states


def schedule_to(states, at):
    """The least schedule that leads to a state."""
    turns = []
    while states[at].before >= 0:
        turns.append(states[at].by)
        at = states[at].before
    return turns[::-1]


def count_ends(states):
    """How many schedules end all instances, and how many come to others that have no turn."""
    ways = [0] * len(states)
    ways[0] = 1
    ended = 0
    stopped = 0
    # Each turn is asked for once, so all schedules that lead to a state have the same length.
    for at, state in enumerate(states):
        for target in state.moves.values():
            ways[target] += ways[at]
        if not state.moves:
            if state.is_calm():
                ended += ways[at]
            else:
                stopped += ways[at]
    return (ended, stopped)


def leads_to(states, turns):
    """For each state whether turns in which nobody waits lead from it to so many turns of each instance."""
    leads = [False] * len(states)
    for at in reversed(range(len(states))):
        state = states[at]
        if state.is_calm():
            leads[at] = state.run.done == turns or any(leads[target] for target in state.moves.values())
    return leads


def turn_on(state, leads):
    """The least instance whose turn leads on, None if there is none."""
    for index in sorted(state.moves):
        if leads[state.moves[index]]:
            return index
    return None


def least_way(states, leads):
    """The least list of turns from the first state, all of which lead on, up to where none does."""
    way = []
    at = 0
    index = turn_on(states[at], leads)
    while index is not None:
        way.append(index)
        at = states[at].moves[index]
        index = turn_on(states[at], leads)
    return way


def least_done(states, leads, turns):
    """For each instance a list with a row for each turn: the fewest turns of each instance directly before it."""
    least = [[list(turns) for _ in range(count)] for count in turns]
    reached = [False] * len(states)
    reached[0] = True
    for at, state in enumerate(states):
        if not reached[at]:
            continue
        done = state.run.done
        for index in state.moves:
            target = state.moves[index]
            if leads[target]:
                reached[target] = True
                known = least[index][done[index]]
                least[index][done[index]] = [min(one, other) for one, other in zip(known, done)]
    return [[tuple(row) for row in rows] for rows in least]
