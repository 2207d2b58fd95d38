"""Bounds: how many members of each template the rings that a search looks for may have.

A bound keeps COUNTS for a walk: whatever it must know about the members so far.
`none_yet` are those of no members. `with_one` tells the counts with one more member of
a template, None if no ring that is looked for can go on so. `ends` tells whether a ring
with these counts is one of those that are looked for. `covers` tells whether a walk with
counts can do without another one, which came to the same place with other counts.
"""


class AnyRing:
    """All rings."""

    def __init__(self):
        self.none_yet = ()

    def with_one(self, counts, _):
        """No counts are kept."""
        return counts

    def ends(self, _):
        """Each ring will do."""
        return True

    def covers(self, counts, other):
        """One walk is as good as another one."""
        return counts == other


class Limited:
    """Rings within limits, None where there is no limit."""

    def __init__(self, limits):
        self.places = {}
        self.most = []
        for template, limit in enumerate(limits):
            if limit is not None:
                self.places[template] = len(self.most)
                self.most.append(limit)
        self.none_yet = (0,) * len(self.most)

    def with_one(self, counts, template):
        """Only the templates that have a limit are counted."""
        if template not in self.places:
            return counts
        place = self.places[template]
        if counts[place] >= self.most[place]:
            return None
        return counts[:place] + (counts[place] + 1,) + counts[place + 1:]

    def ends(self, _):
        """Who is within the limits so far is within them."""
        return True

    def covers(self, counts, other):
        """Whether the first one leaves as much room as the other one."""
        return is_within(counts, other)


class JustOne:
    """Rings in which one template stands exactly once."""

    def __init__(self, template):
        self.template = template
        self.none_yet = 0

    def with_one(self, counts, template):
        """The counts are 1 when the template stands there."""
        if template != self.template:
            return counts
        return None if counts == 1 else 1

    def ends(self, counts):
        """Whether the template stands there."""
        return counts == 1

    def covers(self, counts, other):
        """Neither can stand for the other one if only one of them has the template."""
        return counts == other


class LeastCounts:
    """No ring at all; but the counts of the rings that are met are kept, as far as none is within another one."""

    def __init__(self, size):
        self.none_yet = (0,) * size
        self.found = []

    def with_one(self, counts, template):
        """What has as many members as a known ring leads to nothing new."""
        more = counts[:template] + (counts[template] + 1,) + counts[template + 1:]
        for known in self.found:
            if is_within(known, more):
                return None
        return more

    def ends(self, counts):
        """Keeps the counts, and goes on."""
        self.found = [known for known in self.found if not is_within(counts, known)]
        self.found.append(counts)
        return False

    def covers(self, counts, other):
        """Whether the first one leads to all that is new behind the other one."""
        return is_within(counts, other)


class LeastSupports:
    """No ring at all; but the sets of templates of the rings that are met are kept, one bit for each template."""

    def __init__(self):
        self.none_yet = 0
        self.found = []

    def with_one(self, counts, template):
        """What has all templates of a known ring leads to nothing new."""
        more = counts | 1 << template
        for known in self.found:
            if known & ~more == 0:
                return None
        return more

    def ends(self, counts):
        """Keeps the set, and goes on."""
        self.found = [known for known in self.found if counts & ~known]
        self.found.append(counts)
        return False

    def covers(self, counts, other):
        """Whether the first one leads to all that is new behind the other one."""
        return counts & ~other == 0


def is_within(counts, others):
    """Whether no count is greater than the one at its place."""
    for count, other in zip(counts, others):
        if count > other:
            return False
    return True
