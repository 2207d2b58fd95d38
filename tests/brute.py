"""What the document says, told once more and as plainly as can be: slow, and without the package."""

from itertools import product


class Plain:
    """A system with the answers that the definitions give one after another."""

    def __init__(self, system):
        (self.names, self.allowed, joins), self.fixed, self.templates = system
        self.joins = {frozenset(row[:2]): row[2] for row in joins}

    def join(self, first, second):
        if first is None or first == second:
            return second
        return self.joins[frozenset((first, second))]

    def holds_before(self, template, step):
        held, freed = {}, []
        for row in self.templates[template][3][:step]:
            if row[0] == "lock":
                held[row[1]] = self.join(held.get(row[1]), row[2])
            else:
                freed.append(row[1])
                del held[row[1]]
        return held, freed

    def asked(self, template, step):
        row = self.templates[template][3][step]
        if row[0] == "free":
            return None
        held = self.holds_before(template, step)[0].get(row[1])
        ask = self.join(held, row[2])
        return None if ask == held else (row[1], ask)

    def positions(self):
        found = []
        for template, (_, _, _, steps) in enumerate(self.templates):
            for step in range(len(steps)):
                if self.asked(template, step):
                    found.append((template, step))
        return found

    def item(self, template, keys, name):
        for (param, table), key in zip(self.templates[template][1], keys):
            if param == name:
                return (table, key)
        return name

    def keys_fit(self, template, keys):
        _, params, orders, _ = self.templates[template]
        places = {param: place for place, (param, _) in enumerate(params)}
        for low, high in orders:
            if not keys[places[low]] < keys[places[high]]:
                return False
        rows = [(table, key) for (_, table), key in zip(params, keys)]
        return len(set(rows)) == len(rows)

    def members(self, keys):
        """All members whose keys are among these."""
        found = []
        for template, step in self.positions():
            for row in product(keys, repeat=len(self.templates[template][1])):
                if self.keys_fit(template, row):
                    found.append((template, step, row))
        return found

    def told(self, member):
        """What a member holds, has freed, and asks for, by items."""
        template, step, keys = member
        held, freed = self.holds_before(template, step)
        name, ask = self.asked(template, step)
        return (
            {self.item(template, keys, one): mode for one, mode in held.items()},
            [self.item(template, keys, one) for one in freed],
            self.item(template, keys, name),
            ask,
        )

    def go_together(self, one, other):
        """Whether two members can stand in one ring."""
        for item, mode in one[0].items():
            if item in other[0] and (mode, other[0][item]) not in self.allowed:
                return False
        return not any(item in other[0] for item in one[1]) and not any(item in one[0] for item in other[1])

    def waits(self, one, other):
        """"direct", "behind" or None: how a member waits for the next one."""
        held, _, item, ask = one
        if item in other[0] and (other[0][item], ask) not in self.allowed:
            return "direct"
        if item == other[2] and item not in held:
            return "behind"
        return None

    def is_ring(self, ring):
        """Whether members, each of which is one, are a ring."""
        told = [self.told(member) for member in ring]
        if len(ring) < 2:
            return False
        for place, one in enumerate(told):
            if not all(self.go_together(one, other) for other in told[:place]):
                return False
        words = [self.waits(one, other) for one, other in zip(told, told[1:] + told[:1])]
        return None not in words and "direct" in words

    def all_rings(self, most, keys):
        """All rings of at most so many members with these keys, each of them from one of its direct waits on."""
        members = self.members(keys)
        told = [self.told(member) for member in members]
        apart = [[self.go_together(one, other) for other in told] for one in told]
        words = [[self.waits(one, other) for other in told] for one in told]
        rows = [[first] for first in range(len(told))]
        rings = []
        for _ in range(most - 1):
            longer = []
            for row in rows:
                for other, word in enumerate(words[row[-1]]):
                    if word == "direct" or word and len(row) > 1:
                        if all(apart[other][earlier] for earlier in row):
                            longer.append(row + [other])
            rings.extend([members[place] for place in row] for row in longer if words[row[-1]][row[0]])
            rows = longer
        return rings

    def all_counts(self, most, keys):
        """The counts of all rings of at most so many members with these keys."""
        size = len(self.templates)
        rings = self.all_rings(most, keys)
        return {tuple(sum(one[0] == index for one in ring) for index in range(size)) for ring in rings}

    def fewest(self, most, keys):
        """The fewest members, at most `most`, of a ring with these keys; None if there is none."""
        told = [self.told(member) for member in self.members(keys)]
        apart = [[self.go_together(one, other) for other in told] for one in told]
        words = [[self.waits(one, other) for other in told] for one in told]
        for count in range(2, most + 1):
            if any(self.grows([first], count, apart, words) for first in range(len(told))):
                return count
        return None

    def grows(self, ring, count, apart, words):
        """Whether the ring, whose first member waits directly, can be made one of so many members."""
        if len(ring) == count:
            return bool(words[ring[-1]][ring[0]])
        for other, word in enumerate(words[ring[-1]]):
            if word == "direct" or word and len(ring) > 1:
                if all(apart[other][earlier] for earlier in ring):
                    if self.grows(ring + [other], count, apart, words):
                        return True
        return False
