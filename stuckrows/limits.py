"""Limits: how many instances of each template may run at once, and what can be stuck within them."""

from stuckrows.bounds import Limited
from stuckrows.errors import InvalidLimits
from stuckrows.finder import Finder
from stuckrows.templates import check_ring_system, check_system, check_template, require_rings
from stuckrows.words import is_integer


def check_limits(system, limits):
    """Raises the errors of a system and of limits, and Mismatch for a system that rings do not speak of."""
    check_system(system)
    if not isinstance(limits, (list, tuple)) or len(limits) != len(system[2]):
        raise InvalidLimits(-1)
    for index, limit in enumerate(limits):
        if limit is not None and (not is_integer(limit) or limit < 0):
            raise InvalidLimits(index)
    require_rings(system)


def find_within(system, limits):
    """A shortest ring within limits, where all has been checked; None if there is none."""
    templates = [template for template, limit in enumerate(limits) if limit != 0]
    return Finder(system).ring_among(templates, Limited(limits))


def can_be_stuck_within(system, limits):
    """Whether some instances, of each template no more than its limit, can be stuck."""
    check_limits(system, limits)
    return find_within(system, limits) is not None


def ring_within(system, limits):
    """A ring within the limits with as few members as possible, None if there is none."""
    check_limits(system, limits)
    return find_within(system, limits)


def least_counts(system):
    """The ascending list of the counts of rings that have no other ring's counts within them."""
    check_ring_system(system)
    return Finder(system).least_counts()


def is_no_less(limits, others):
    """Whether no limit is less than the one at its place, where None is greater than each integer."""
    for limit, other in zip(limits, others):
        if limit is not None and (other is None or limit < other):
            return False
    return True


def lowered(limits, counts):
    """The greatest limits within these that do not let these counts, which are within them, stand."""
    lower = []
    for template, count in enumerate(counts):
        if count > 0:
            lower.append(limits[:template] + (count - 1,) + limits[template + 1:])
    return lower


def greatest_of(rows):
    """Those of some limits that no other ones among them are nowhere less than, each once."""
    rows = list({row: True for row in rows})
    return [row for row in rows if not any(other != row and is_no_less(other, row) for other in rows)]


def place_of(limits):
    """What limits are sorted by: None is greater than each integer."""
    return [(limit is None, 0 if limit is None else limit) for limit in limits]


def safe_limits(system):
    """The ascending list of the greatest limits within which nothing can be stuck."""
    check_ring_system(system)
    safe = [(None,) * len(system[2])]
    for counts in Finder(system).least_counts():
        rows = []
        for limits in safe:
            rows.extend(lowered(limits, counts) if is_no_less(limits, counts) else [limits])
        safe = greatest_of(rows)
    return sorted(safe, key=place_of)


def fewest_of(system, template):
    """The least number of members of a template that a ring has, None if there is no ring."""
    check_template(system, template)
    require_rings(system)
    found = [counts[template] for counts in Finder(system).least_counts()]
    return min(found, default=None)
