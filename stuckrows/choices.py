"""Choices of changes with prices, and what shows that a ring is left behind a choice."""

from itertools import combinations

from stuckrows.changing import all_changes, can_be_together, read_changes, with_some
from stuckrows.errors import TooLarge
from stuckrows.shown import Reader
from stuckrows.words import is_tuple

MOST_PRICED = 12


class Choices:
    """All choices of at most so many changes, each with a price."""

    def __init__(self, system, prices, most):
        self.system = system
        self.prices = prices
        self.priced = [change for change in all_changes(system) if change[0] in prices]
        if len(self.priced) > MOST_PRICED:
            raise TooLarge(MOST_PRICED)
        self.most = most

    def price_of(self, some):
        """The price of changes each of which has one."""
        return sum([self.prices[change[0]] for change in some])

    def all_rows(self):
        """The list of (price, changes) of all choices: the cheaper ones first, then the shorter, then the lesser."""
        rows = []
        for size in range(self.most + 1):
            rows.extend(self.rows_of(size))
        # Those of one price are in their order already, and stay in it.
        return sorted(rows, key=lambda row: row[0])

    def rows_of(self, size):
        """The list of (price, changes) of all choices of so many changes, the least ones first."""
        rows = []
        for some in combinations(self.priced, size):
            if can_be_together(self.system[2], some):
                rows.append((self.price_of(some), list(some)))
        return rows


def part_of(some, templates):
    """What of some changes changes one of these templates."""
    return [change for change in some if change[1] in templates]


class Evidence:
    """Rings that are left behind parts of choices, as far as these are in ascending order."""

    def __init__(self):
        # For each set of templates that have a member in a ring, as a tuple, the parts behind which there is one.
        self.parts = {}

    def keep(self, part, ring):
        """A ring is left behind changes, all of which change templates that have a member in it."""
        templates = tuple(sorted({template for template, _, _ in ring}))
        self.parts.setdefault(templates, {})[tuple(part)] = True

    def shows(self, some):
        """Whether a ring is known to be left behind some changes."""
        for templates, parts in self.parts.items():
            if tuple(part_of(some, templates)) in parts:
                return True
        return False


class EntryReader:
    """What tells the entries of papers that nothing cheaper helps."""

    def __init__(self, system):
        self.system = system
        self.known = all_changes(system)
        # For each part that was read what tells the rings behind it.
        self.readers = {}

    def part_of_entry(self, entry):
        """The part of an entry, in ascending order; None if a value is no entry."""
        if not is_tuple(entry, 2, 2):
            return None
        part = read_changes(self.system, self.known, entry[0])
        if part is None or not self.reader_of(part).shows(entry[1]):
            return None
        members = [template for template, _, _ in entry[1]]
        return part if part_of(part, members) == part else None

    def reader_of(self, part):
        """What tells the rings of the system behind a part."""
        key = tuple(part)
        if key not in self.readers:
            self.readers[key] = Reader(with_some(self.system, part))
        return self.readers[key]

    def evidence_of(self, paper):
        """What a paper shows, None if a value is no list of entries."""
        if not isinstance(paper, list):
            return None
        evidence = Evidence()
        for entry in paper:
            part = self.part_of_entry(entry)
            if part is None:
                return None
            evidence.keep(part, entry[1])
        return evidence
