"""Who takes and frees what in runs in which nobody ever waits, told plainly and without the package."""

from itertools import product

from brute import Plain


class PlainEarly(Plain):
    """Disorders as the document tells them."""

    def instances(self, keys):
        """All instances with keys among these."""
        found = []
        for index, template in enumerate(self.templates):
            for row in product(keys, repeat=len(template[1])):
                if self.keys_fit(index, row):
                    found.append((index, row))
        return found

    def tape(self, instances, schedule):
        """The lists of (time, instance, item, mode) of what is freed and taken; None if somebody has to wait."""
        held = {}
        done = [0] * len(instances)
        freed, taken = [], []
        for time, index in enumerate(schedule):
            template, keys = instances[index]
            steps = self.templates[template][3]
            if done[index] == len(steps):
                for (owner, item), mode in list(held.items()):
                    if owner == index:
                        freed.append((time, index, item, held.pop((owner, item))))
                done[index] += 1
                continue
            step = steps[done[index]]
            done[index] += 1
            item = self.item(template, keys, step[1])
            if step[0] == "free":
                freed.append((time, index, item, held.pop((index, item))))
                continue
            before = held.get((index, item))
            mode = self.join(before, step[2])
            if mode != before:
                for (owner, other), holds in held.items():
                    if owner != index and other == item and (holds, mode) not in self.allowed:
                        return None
                held[index, item] = mode
                taken.append((time, index, item, mode))
        return freed, taken

    def pairs(self, tape):
        """All pairs of which the first is ahead."""
        freed, taken = tape
        return {
            (first, other)
            for time, first, item, mode in freed for later, other, what, asked in taken
            if what == item and later > time and (mode, asked) not in self.allowed
        }

    def is_disorder(self, instances, turns):
        """Whether instances, each of which is one, are a disorder with an integer from 1 on."""
        counts = [len(self.templates[template][3]) + 1 for template, _ in instances]
        first = min(turns, counts[0])
        schedule = [0] * first
        for index, count in list(enumerate(counts))[1:]:
            schedule += [index] * count
        tape = self.tape(instances, schedule + [0] * (counts[0] - first))
        if tape is None:
            return False
        pairs = self.pairs(tape)
        return all((index, (index + 1) % len(instances)) in pairs for index in range(len(instances)))

    def all_disorders(self, count, keys):
        """All disorders of so many instances with these keys."""
        found = []
        for instances in product(self.instances(keys), repeat=count):
            for turns in range(1, len(self.templates[instances[0][0]][3]) + 1):
                if self.is_disorder(instances, turns):
                    found.append((list(instances), turns))
        return found
