"""States: where schedules of some instances can lead, all that there are."""

from stuckrows.errors import TooLarge

MOST_STATES = 2000


class States:
    """All states, those that fewer turns lead to first, of these those of lesser schedules."""

    def __init__(self, plan):
        self.plan = plan
        self.states = [plan.first]
        self.numbers = {plan.first: 0}
        # For each state the one before it on the least schedule that leads there, and whose turn leads from there.
        self.before = [(-1, -1)]
        # For each state a dict from the instances that have a turn to the numbers of the states to which it leads.
        self.moves = []
        while len(self.moves) < len(self.states):
            self.look_from(len(self.moves))

    def look_from(self, at):
        """Keeps the moves from a state, and where they lead."""
        state = self.states[at]
        turns = self.plan.turns
        numbers = self.numbers
        moves = {}
        for index, mask in self.plan.masks:
            here = state & mask
            if here not in turns:
                continue
            stop, wait, late, freed = turns[here]
            if state & stop:
                target = state + wait
                if state & late:
                    target = self.plan.came_first(target, here + wait, state & late)
            elif state & freed:
                target = self.plan.state_freed(state + here, here)
            else:
                # The next bit tells that one more turn is done.
                target = state + here
            if target not in numbers:
                if len(numbers) == MOST_STATES:
                    raise TooLarge(MOST_STATES)
                numbers[target] = len(numbers)
                self.states.append(target)
                self.before.append((at, index))
            moves[index] = numbers[target]
        self.moves.append(moves)

    def schedule_to(self, at):
        """The least schedule that leads to a state."""
        turns = []
        while at > 0:
            at, index = self.before[at]
            turns.append(index)
        return turns[::-1]

    def first_stuck(self, all_of):
        """The first state in which an instance, or all of them, are stuck; None if there is none."""
        plan = self.plan
        waits = plan.all_waits()
        for at, state in enumerate(self.states):
            waiting = state & waits
            # One alone is never stuck, and where all are stuck nobody has a turn.
            if waiting & waiting - 1 == 0 or all_of and self.moves[at]:
                continue
            if plan.count_stuck(state) >= (len(plan.masks) if all_of else 1):
                return at
        return None

    def count_ends(self):
        """How many schedules end all instances, and how many come to others that have no turn."""
        waits = self.plan.all_waits()
        ways = [0] * len(self.states)
        ways[0] = 1
        ended = 0
        stopped = 0
        # Each turn is asked for once, so all schedules that lead to a state have the same length.
        for at, moves in enumerate(self.moves):
            count = ways[at]
            for target in moves.values():
                ways[target] += count
            if not moves:
                if self.states[at] & waits:
                    stopped += count
                else:
                    ended += count
        return (ended, stopped)

    def leads_to(self, turns):
        """For each state whether turns in which nobody waits lead from it to so many turns of each instance."""
        leads = [False] * len(self.states)
        goal = self.plan.state_behind(turns)
        if goal not in self.numbers:
            return leads
        last = self.numbers[goal]
        leads[last] = True
        waits = self.plan.all_waits()
        for at in reversed(range(last)):
            if self.states[at] & waits == 0:
                leads[at] = any(leads[target] for target in self.moves[at].values())
        return leads


def least_way(states, leads):
    """The least list of turns from the first state, all of which lead on, up to where none does."""
    way = []
    at = 0
    while at >= 0:
        moves = states.moves[at]
        at = -1
        for index in sorted(moves):
            if leads[moves[index]]:
                way.append(index)
                at = moves[index]
                break
    return way


def least_done(states, leads, turns):
    """For each instance a list with a row for each turn: the fewest turns of each instance directly before it."""
    least = [[list(turns) for _ in range(count)] for count in turns]
    reached = {0: True}
    for at, moves in enumerate(states.moves):
        if at not in reached:
            continue
        done = states.plan.done_in(states.states[at])
        for index in moves:
            if leads[moves[index]]:
                reached[moves[index]] = True
                known = least[index][done[index]]
                least[index][done[index]] = [min(one, other) for one, other in zip(known, done)]
    return [[tuple(row) for row in rows] for rows in least]
