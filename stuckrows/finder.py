"""Finders: rings of one system, looked for again and again."""

from stuckrows.bounds import AnyRing, LeastCounts, LeastSupports
from stuckrows.links import Links
from stuckrows.members import ring_of
from stuckrows.search import shortest_walk, starts_of, trips_of


class Finder:
    """A system that has been checked, with all that its rings have in common."""

    def __init__(self, system):
        self.system = system
        self.links = Links(system)
        self.starts = starts_of(self.links)

    def ring_among(self, templates, bound):
        """A shortest ring of some templates within a bound, None if there is none."""
        trips = trips_of(self.links, self.starts, self.links.nodes_of(templates))
        found = shortest_walk(self.links, trips, bound)
        if found is None:
            return None
        start, walk = found
        return ring_of(self.system, self.links, start, walk)

    def follow_all(self, bound):
        """Follows all walks, where no walk ends the search."""
        trips = trips_of(self.links, self.starts, self.links.nodes_of(list(range(len(self.system[2])))))
        shortest_walk(self.links, trips, bound)

    def least_counts(self):
        """The ascending list of the counts of rings within which no others are."""
        bound = LeastCounts(len(self.system[2]))
        self.follow_all(bound)
        return sorted(bound.found)

    def least_supports(self):
        """The ascending list of the sets of templates of rings within which no others are, as integers."""
        bound = LeastSupports()
        self.follow_all(bound)
        return sorted(bound.found)


def find_ring(system):
    """A shortest ring of a system that has been checked, None if there is none."""
    return Finder(system).ring_among(list(range(len(system[2]))), AnyRing())
