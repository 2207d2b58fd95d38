"""Modes of locks: what they allow and what they are together."""

from stuckrows.errors import InvalidMode, InvalidModes
from stuckrows.words import are_different_names, is_tuple

MOST_MODES = 6
USUAL_NAMES = ("is", "ix", "s", "u", "six", "x")
USUAL_ALLOWED = (
    ("is", "is"), ("is", "ix"), ("is", "s"), ("is", "u"), ("is", "six"),
    ("ix", "is"), ("ix", "ix"),
    ("s", "is"), ("s", "s"), ("s", "u"),
    ("u", "is"), ("u", "s"),
    ("six", "is"),
)
USUAL_JOINS = (
    ("is", "ix", "ix"), ("is", "s", "s"), ("is", "u", "u"), ("is", "six", "six"), ("is", "x", "x"),
    ("ix", "s", "six"), ("ix", "u", "six"), ("ix", "six", "six"), ("ix", "x", "x"),
    ("s", "u", "u"), ("s", "six", "six"), ("s", "x", "x"),
    ("u", "six", "six"), ("u", "x", "x"),
    ("six", "x", "x"),
)


class ModeTable:
    """What modes of the right form allow, and their joins; None stands for no lock at all."""

    def __init__(self, modes):
        names, allowed, joins = modes
        self.names = names
        self.allowed = {pair: True for pair in allowed}
        self.joins = {(name, name): name for name in names}
        for first, second, both in joins:
            self.joins[first, second] = both
            self.joins[second, first] = both

    def allows(self, held, asked):
        """Whether an owner may be given `asked` while another one holds `held`."""
        return held is None or (held, asked) in self.allowed

    def join_of(self, held, mode):
        """What an owner that holds `held` holds with `mode`."""
        return mode if held is None else self.joins[held, mode]


def are_rows_of_modes(names, rows, size):
    """Whether rows are a tuple of tuples of so many modes."""
    if not isinstance(rows, tuple):
        return False
    return all(is_row_of_modes(names, row, size) for row in rows)


def is_row_of_modes(names, row, size):
    """Whether a row is a tuple of so many modes."""
    return is_tuple(row, size, size) and all(mode in names for mode in row)


def is_allowed_part(names, allowed):
    """Whether this can be the second entry of modes."""
    if not are_rows_of_modes(names, allowed, 2):
        return False
    return len(set(allowed)) == len(allowed)


def is_joins_part(names, joins):
    """Whether this can be the third entry of modes."""
    if not are_rows_of_modes(names, joins, 3):
        return False
    pairs = [(first, second) for place, second in enumerate(names) for first in names[:place]]
    return sorted([row[:2] for row in joins]) == sorted(pairs)


def join_is_exact(table, first, second):
    """Whether the join, held and asked, allows and is allowed just as both modes are."""
    both = table.join_of(first, second)
    for other in table.names:
        if table.allows(both, other) != (table.allows(first, other) and table.allows(second, other)):
            return False
        if table.allows(other, both) != (table.allows(other, first) and table.allows(other, second)):
            return False
    return True


def order_is_free(table, first, second, third):
    """Whether the join of three modes is the same whichever of them comes last."""
    whole = table.join_of(table.join_of(first, second), third)
    if whole != table.join_of(table.join_of(first, third), second):
        return False
    return whole == table.join_of(table.join_of(second, third), first)


def is_exact(table):
    """Whether one mode can stand for several ones."""
    names = table.names
    if not all(join_is_exact(table, first, second) for first in names for second in names):
        return False
    return all(order_is_free(table, first, second, third) for first in names for second in names for third in names)


def check_modes(modes):
    """None if the value is modes, otherwise the first part of it that is wrong."""
    if not is_tuple(modes, 3, 3):
        return "form"
    names, allowed, joins = modes
    if not are_different_names(names, 1, MOST_MODES):
        return "names"
    if not is_allowed_part(names, allowed):
        return "allowed"
    if not is_joins_part(names, joins):
        return "joins"
    return None if is_exact(ModeTable(modes)) else "exact"


def require_modes(modes):
    """Raises InvalidModes if the value is not modes."""
    part = check_modes(modes)
    if part is not None:
        raise InvalidModes(part)


def require_some(modes, some):
    """Raises InvalidModes, and InvalidMode if `some` is no list or tuple of modes."""
    require_modes(modes)
    if not isinstance(some, (list, tuple)):
        raise InvalidMode(some)
    for mode in some:
        if mode not in modes[0]:
            raise InvalidMode(mode)


def standard():
    """The usual modes of tables and rows."""
    return (USUAL_NAMES, USUAL_ALLOWED, USUAL_JOINS)


def allow_both_ways(modes):
    """Whether modes that have been checked are symmetric."""
    table = ModeTable(modes)
    return all(table.allows(asked, held) for held, asked in modes[1])


def is_symmetric(modes):
    """Whether of two modes each allows the other one, or none does."""
    require_modes(modes)
    return allow_both_ways(modes)


def joined(modes, some):
    """The join of some modes, None if there are none."""
    require_some(modes, some)
    table = ModeTable(modes)
    held = None
    for mode in some:
        held = table.join_of(held, mode)
    return held


def may_stand(modes, some):
    """Whether different owners that take these modes at one item, in this order, are all granted."""
    require_some(modes, some)
    table = ModeTable(modes)
    held = None
    for mode in some:
        # Modes are exact, so the join of all that is held decides for each holder.
        if not table.allows(held, mode):
            return False
        held = table.join_of(held, mode)
    return True
