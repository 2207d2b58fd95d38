"""Modes of locks: what they allow and what they are together."""

from stuckrows.errors import InvalidMode, InvalidModes
from stuckrows.words import are_different_names, is_tuple

MOST_MODES = 6
USUAL_NAMES = ("is", "ix", "s", "u", "six", "x")
USUAL_ALLOWED = (
    ("is", "is"), ("is", "ix"), ("is", "s"), ("is", "u"), ("is", "six"),
    ("ix", "is"), ("ix", "ix"),
    ("s", "is"), ("s", "s"), ("s", "u"),
    ("u", "is"), ("u", "s"),
    ("six", "is"),
)
USUAL_JOINS = (
    ("is", "ix", "ix"), ("is", "s", "s"), ("is", "u", "u"), ("is", "six", "six"), ("is", "x", "x"),
    ("ix", "s", "six"), ("ix", "u", "six"), ("ix", "six", "six"), ("ix", "x", "x"),
    ("s", "u", "u"), ("s", "six", "six"), ("s", "x", "x"),
    ("u", "six", "six"), ("u", "x", "x"),
    ("six", "x", "x"),
)


class ModeTable:
    """What modes of the right form allow, and their joins; None stands for no lock at all."""

    def __init__(self, modes):
        names, allowed, joins = modes
        self.allowed = {pair: True for pair in allowed}
        self.joins = {name: {name: name} for name in names}
        for first, second, both in joins:
            self.joins[first][second] = both
            self.joins[second][first] = both

    def allows(self, held, asked):
        """Whether an owner may be given `asked` while another one holds `held`."""
        return held is None or (held, asked) in self.allowed

    def join_of(self, held, mode):
        """What an owner that holds `held` holds with `mode`."""
        return mode if held is None else self.joins[held][mode]


def is_allowed_part(names, allowed):
    """Whether this can be the second entry of modes."""
    if not isinstance(allowed, tuple):
        return False
    for row in allowed:
        if not isinstance(row, tuple) or len(row) != 2 or row[0] not in names or row[1] not in names:
            return False
    return len(set(allowed)) == len(allowed)


def is_joins_part(names, joins):
    """Whether this can be the third entry of modes."""
    if not isinstance(joins, tuple):
        return False
    for row in joins:
        if not isinstance(row, tuple) or len(row) != 3 or row[2] not in names:
            return False
        if row[0] not in names or row[1] not in names or names.index(row[0]) >= names.index(row[1]):
            return False
    # Each row has a pair that must have one; so all have one if there are as many, and no pair has two.
    pairs = len({row[:2] for row in joins})
    return pairs == len(joins) and pairs == len(names) * (len(names) - 1) // 2


def faces_of(names, allowed):
    """For each mode which ones it allows, held, and by which it is allowed, asked: one bit for each of these."""
    face = {name: 0 for name in names}
    bit = {name: 1 << place for place, name in enumerate(names)}
    for held, asked in allowed:
        face[held] |= bit[asked]
        face[asked] |= bit[held] << MOST_MODES
    return face


def order_is_free(modes):
    """Whether the join of any three modes is the same whichever of them comes last."""
    names = modes[0]
    joins = ModeTable(modes).joins
    for place, third in enumerate(names):
        for at, second in enumerate(names[:place]):
            both = joins[second][third]
            if joins[both][second] != both or joins[both][third] != both:
                return False
            for first in names[:at]:
                whole = joins[both][first]
                if joins[joins[first][second]][third] != whole or joins[joins[first][third]][second] != whole:
                    return False
    return True


def is_exact(modes):
    """Whether one mode can stand for several ones, in modes of the right form."""
    names, allowed, joins = modes
    face = faces_of(names, allowed)
    for first, second, both in joins:
        if face[both] != face[first] & face[second]:
            return False
    # What several modes tell together does not depend on their order. So neither does their join,
    # unless several modes tell the same.
    return len(set(list(face.values()))) == len(names) or order_is_free(modes)


def check_modes(modes):
    """None if the value is modes, otherwise the first part of it that is wrong."""
    if not is_tuple(modes, 3, 3):
        return "form"
    names, allowed, joins = modes
    if not are_different_names(names, 1, MOST_MODES):
        return "names"
    if not is_allowed_part(names, allowed):
        return "allowed"
    if not is_joins_part(names, joins):
        return "joins"
    return None if is_exact(modes) else "exact"


def require_modes(modes):
    """Raises InvalidModes if the value is not modes."""
    part = check_modes(modes)
    if part is not None:
        raise InvalidModes(part)


def require_some(modes, some):
    """Raises InvalidModes, and InvalidMode if `some` is no list or tuple of modes."""
    require_modes(modes)
    if not isinstance(some, (list, tuple)):
        raise InvalidMode(some)
    for mode in some:
        if mode not in modes[0]:
            raise InvalidMode(mode)


def standard():
    """The usual modes of tables and rows."""
    return (USUAL_NAMES, USUAL_ALLOWED, USUAL_JOINS)


def allow_both_ways(modes):
    """Whether modes that have been checked are symmetric."""
    allowed = {pair: True for pair in modes[1]}
    for held, asked in modes[1]:
        if (asked, held) not in allowed:
            return False
    return True


def is_symmetric(modes):
    """Whether of two modes each allows the other one, or none does."""
    require_modes(modes)
    return allow_both_ways(modes)


def joined(modes, some):
    """The join of some modes, None if there are none."""
    require_some(modes, some)
    table = ModeTable(modes)
    held = None
    for mode in some:
        held = table.join_of(held, mode)
    return held


def may_stand(modes, some):
    """Whether different owners that take these modes at one item, in this order, are all granted."""
    require_some(modes, some)
    table = ModeTable(modes)
    held = None
    for mode in some:
        # Modes are exact, so the join of all that is held decides for each holder.
        if not table.allows(held, mode):
            return False
        held = table.join_of(held, mode)
    return True
