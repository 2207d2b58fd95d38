"""Plans: what each instance does at each of its turns, and whom it meets there.

A state of a few instances is one integer here. Each instance has a bit for each number
of turns that it can have done, the next bit for one turn more; and one for each lock
step for which it can wait. Just one of them is set. Each pair of instances has a bit,
too, which is set while both wait in the same row (the conversions of an item, or its
queue) and the later one of the two came first. What an instance holds is told by its
bit, so one look at the bits of a state tells whether somebody is in the way of an ask.
"""

from stuckrows.bitsets import single_bits
from stuckrows.instances import steps_of
from stuckrows.modes import ModeTable


class Ask:
    """A lock step of an instance by which it asks for more than it holds."""

    def __init__(self, index, here, waits, item):
        self.index = index
        # The bit of the instance when it is about to ask, and the one while it waits.
        self.here = here
        self.waits = waits
        self.item = item
        self.mode = None
        self.converts = False
        # The bits of others that hold the item in a mode that does not allow the ask.
        self.block = 0


class Plan:
    """All that tells what comes of the turns of some instances."""

    def __init__(self, system, instances):
        self.table = ModeTable(system[0])
        # For each instance its index and all of its bits.
        self.masks = []
        self.first = 0
        self.size = 0
        # For each bit with which somebody waits the ask; for each bit with which somebody frees items these.
        self.asks = {}
        self.frees = {}
        # For each item a dict from modes to the bits of those that hold it so.
        self.holds = {}
        # For each item the bits of those that wait there.
        self.conversions = {}
        self.queues = {}
        # For each bit with which an instance has a turn: who makes it wait, what then is added to the state,
        # who of those with a greater index waits in the same row, and who waits for what the turn frees.
        self.turns = {}
        for index, instance in enumerate(instances):
            self.add_instance(index, steps_of(system, instance))
        self.pairs = {}
        # For each instance its pairs' bits.
        self.pairs_of = [0] * len(instances)
        self.add_pairs(len(instances))
        self.add_turns()

    def add_instance(self, index, steps):
        """The bits of an instance, its asks, and what it holds."""
        count = len(steps)
        here = 1 << self.size
        self.first |= here
        self.masks.append((index, (1 << 2 * count + 2) - 1 << self.size))
        self.size += 2 * count + 2
        held = {}
        for name, item, *modes in steps:
            waits = here << count + 2
            self.keep_holds(held, here | waits)
            self.turns[here] = (0, 0, 0, 0)
            if name == "free":
                self.frees[here] = [item]
                del held[item]
            else:
                self.add_ask(Ask(index, here, waits, item), held, modes[0])
            here <<= 1
        self.keep_holds(held, here)
        self.turns[here] = (0, 0, 0, 0)
        self.frees[here] = list(held)

    def keep_holds(self, held, bits):
        """Who has one of these bits holds all this."""
        for item in held:
            modes = self.holds[item]
            modes[held[item]] = modes.get(held[item], 0) | bits

    def add_ask(self, ask, held, mode):
        """Keeps an ask, if it asks for more, and what then is held."""
        before = held.get(ask.item)
        ask.mode = self.table.join_of(before, mode)
        if ask.mode == before:
            return
        ask.converts = before is not None
        held[ask.item] = ask.mode
        self.holds.setdefault(ask.item, {})
        self.asks[ask.waits] = ask
        rows = self.conversions if ask.converts else self.queues
        rows[ask.item] = rows.get(ask.item, 0) | ask.waits

    def add_pairs(self, count):
        """A bit for each pair of instances."""
        bit = 1 << self.size
        for other in range(count):
            for index in range(other):
                self.pairs[index, other] = bit
                self.pairs_of[index] |= bit
                self.pairs_of[other] |= bit
                bit <<= 1

    def waiters(self, item):
        """The bits of all that can wait at an item."""
        return self.conversions.get(item, 0) | self.queues.get(item, 0)

    def add_turns(self):
        """Who is in whose way."""
        for ask in self.asks.values():
            mine = self.masks[ask.index][1]
            for mode, bits in self.holds[ask.item].items():
                if not self.table.allows(mode, ask.mode):
                    ask.block |= bits
            ask.block &= ~mine
            row = self.conversions[ask.item] if ask.converts else self.queues[ask.item]
            stop = ask.block if ask.converts else ask.block | self.waiters(ask.item) & ~mine
            # The bits of those with a greater index are greater than all of its own ones.
            late = row >> mine.bit_length() << mine.bit_length()
            self.turns[ask.here] = (stop, ask.waits - ask.here, late, 0)
        for here, items in self.frees.items():
            freed = 0
            for item in items:
                freed |= self.waiters(item)
            self.turns[here] = (0, 0, 0, freed)

    def all_waits(self):
        """The bits with which somebody waits."""
        return sum(list(self.asks))

    def done_in(self, state):
        """How many turns each instance has done in a state in which nobody waits."""
        done = []
        size = 0
        for _, mask in self.masks:
            done.append((state & mask).bit_length() - 1 - size)
            size = mask.bit_length()
        return done

    def state_behind(self, turns):
        """The state in which each instance has done so many turns, and nobody waits."""
        state = 0
        size = 0
        for count, (_, mask) in zip(turns, self.masks):
            state |= 1 << size + count
            size = mask.bit_length()
        return state

    def came_first(self, state, waits, others):
        """The state in which others, with greater indexes, are before one that has begun to wait."""
        index = self.asks[waits].index
        for bit in single_bits(others):
            state |= self.pairs[index, self.asks[bit].index]
        return state

    def in_order(self, state, waiting):
        """The list of the asks of those that wait in one row, as they came."""
        row = []
        for bit in single_bits(waiting):
            ask = self.asks[bit]
            place = len(row)
            while place > 0 and state & self.pairs[row[place - 1].index, ask.index]:
                place -= 1
            row.insert(place, ask)
        return row

    def state_granted(self, state, ask):
        """The state behind the grant of an ask."""
        return (state & ~self.pairs_of[ask.index]) - ask.waits + (ask.here << 1)

    def state_freed(self, state, here):
        """The state when all has been granted that can be where the turn of a bit has freed items."""
        for item in self.frees[here]:
            waiting = self.conversions.get(item, 0)
            for ask in self.in_order(state, state & waiting):
                if state & ask.block == 0:
                    state = self.state_granted(state, ask)
            if state & waiting:
                continue
            for ask in self.in_order(state, state & self.queues.get(item, 0)):
                if state & ask.block:
                    break
                state = self.state_granted(state, ask)
        return state

    def waiting(self, state):
        """The dict from the bits with which instances wait to their asks."""
        return {bit: self.asks[bit] for bit in single_bits(state & (1 << self.size) - 1) if bit in self.asks}

    def waits_for(self, state, ask):
        """The bits of those for which one that waits must wait, and more that do not wait."""
        others = state & ask.block
        if not ask.converts:
            others |= state & self.conversions.get(ask.item, 0)
            row = self.in_order(state, state & self.queues[ask.item])
            for other in row:
                if other.waits == ask.waits:
                    break
                others |= other.waits
        return others

    def count_stuck(self, state):
        """How many instances are stuck."""
        left = {bit: self.waits_for(state, ask) for bit, ask in self.waiting(state).items()}
        while True:
            bits = sum(list(left))
            stuck = {bit: others for bit, others in left.items() if others & bits}
            if len(stuck) == len(left):
                return len(left)
            left = stuck
