"""Modes of locks: what they allow and what they are together."""

from stuckrows.errors import InvalidMode, InvalidModes
from stuckrows.words import are_names

MOST_MODES = 6
USUAL_NAMES = ("is", "ix", "s", "u", "six", "x")
USUAL_ALLOWED = (
    ("is", "is"), ("is", "ix"), ("is", "s"), ("is", "u"), ("is", "six"),
    ("ix", "is"), ("ix", "ix"),
    ("s", "is"), ("s", "s"), ("s", "u"),
    ("u", "is"), ("u", "s"),
    ("six", "is"),
)
USUAL_JOINS = (
    ("is", "ix", "ix"), ("is", "s", "s"), ("is", "u", "u"), ("is", "six", "six"), ("is", "x", "x"),
    ("ix", "s", "six"), ("ix", "u", "six"), ("ix", "six", "six"), ("ix", "x", "x"),
    ("s", "u", "u"), ("s", "six", "six"), ("s", "x", "x"),
    ("u", "six", "six"), ("u", "x", "x"),
    ("six", "x", "x"),
)


class ModeTable:
    """What modes of the right form allow, and their joins; None stands for no lock at all."""

    def __init__(self, modes):
        names, allowed, joins = modes
        self.allowed = {pair: True for pair in allowed}
        self.joins = {name: {name: name} for name in names}
        for first, second, both in joins:
            self.joins[first][second] = both
            self.joins[second][first] = both

    def allows(self, held, asked):
        """Whether an owner may be given `asked` while another one holds `held`."""
        return held is None or (held, asked) in self.allowed

    def join_of(self, held, mode):
        """What an owner that holds `held` holds with `mode`."""
        return mode if held is None else self.joins[held][mode]


class Joins:
    """The joins of modes of the right form, for a few questions only."""

    def __init__(self, modes):
        self.rows = modes[2]

    def join_of(self, held, mode):
        """What an owner that holds `held` holds with `mode`."""
        if held is None or held == mode:
            return mode
        for first, second, both in self.rows:
            if first == held and second == mode or first == mode and second == held:
                return both
        return None


def has_faces(bit, face, allowed):
    """Whether this can be the second entry of modes that have these bits; then puts the faces of the modes in a dict.

    A face tells which modes one allows, held, and by which it is allowed, asked: one bit for each of these.
    """
    if not isinstance(allowed, tuple):
        return False
    names = list(bit)
    for row in allowed:
        if not isinstance(row, tuple) or len(row) != 2:
            return False
        held, asked = row
        if held not in names or asked not in names or face[held] & bit[asked]:
            return False
        face[held] |= bit[asked]
        face[asked] |= bit[held] << MOST_MODES
    return True


def wrong_joins(bit, joins, face):
    """What is wrong with the third entry of modes, "joins" or "exact"; None if nothing is."""
    names = list(bit)
    # Each row has a pair that must have one; so all have one if there are as many, and no pair has two.
    if not isinstance(joins, tuple) or len(joins) != len(names) * (len(names) - 1) // 2:
        return "joins"
    pairs = 0
    wrong = None
    for row in joins:
        if not isinstance(row, tuple) or len(row) != 3:
            return "joins"
        first, second, both = row
        if first not in names or second not in names or both not in names or bit[first] >= bit[second]:
            return "joins"
        # No two pairs of bits have the same sum.
        pair = 1 << bit[first] + bit[second]
        if pairs & pair:
            return "joins"
        pairs |= pair
        if face[both] != face[first] & face[second]:
            wrong = "exact"
    return wrong


def order_is_free(modes):
    """Whether the join of any three modes is the same whichever of them comes last."""
    names = modes[0]
    joins = ModeTable(modes).joins
    for place, third in enumerate(names):
        for at, second in enumerate(names[:place]):
            both = joins[second][third]
            if joins[both][second] != both or joins[both][third] != both:
                return False
            for first in names[:at]:
                whole = joins[both][first]
                if joins[joins[first][second]][third] != whole or joins[joins[first][third]][second] != whole:
                    return False
    return True


def are_standard(modes):
    """Whether a value is the usual modes of tables and rows, which need no look."""
    return modes == (USUAL_NAMES, USUAL_ALLOWED, USUAL_JOINS)


def read_and_write(modes):
    """Whether a tuple of three, with different names first, is modes of which one reads and the other one writes."""
    names, allowed, joins = modes
    if len(names) != 2:
        return False
    weak, strong = names
    return allowed == ((weak, weak),) and joins == ((weak, strong, strong),)


def check_modes(modes):
    """None if the value is modes, otherwise the first part of it that is wrong."""
    if not isinstance(modes, tuple) or len(modes) != 3:
        return "form"
    names = modes[0]
    if not isinstance(names, tuple) or not 1 <= len(names) <= MOST_MODES or not are_names(names):
        return "names"
    return wrong_part(modes)


def wrong_part(modes):
    """The first part of a tuple that is wrong, where a tuple of one to six names comes first; None if it is modes."""
    names, allowed, joins = modes
    if len(set(names)) < len(names):
        return "names"
    if read_and_write(modes) or are_standard(modes):
        return None
    bit = {name: 1 << place for place, name in enumerate(names)}
    face = {name: 0 for name in names}
    if not has_faces(bit, face, allowed):
        return "allowed"
    part = wrong_joins(bit, joins, face)
    # What several modes tell together does not depend on their order. So neither does their join,
    # unless several modes tell the same. Of two modes the join is one.
    if part is not None or len(names) < 3 or len(set(list(face.values()))) == len(names) or order_is_free(modes):
        return part
    return "exact"


def require_modes(modes):
    """Raises InvalidModes if the value is not modes."""
    part = check_modes(modes)
    if part is not None:
        raise InvalidModes(part)


def require_some(modes, some):
    """Raises InvalidModes, and InvalidMode if `some` is no list or tuple of modes."""
    require_modes(modes)
    if not isinstance(some, (list, tuple)):
        raise InvalidMode(some)
    for mode in some:
        if mode not in modes[0]:
            raise InvalidMode(mode)


def standard():
    """The usual modes of tables and rows."""
    return (USUAL_NAMES, USUAL_ALLOWED, USUAL_JOINS)


def allow_both_ways(modes):
    """Whether modes that have been checked are symmetric."""
    allowed = {pair: True for pair in modes[1]}
    for held, asked in modes[1]:
        if (asked, held) not in allowed:
            return False
    return True


def is_symmetric(modes):
    """Whether of two modes each allows the other one, or none does."""
    require_modes(modes)
    return allow_both_ways(modes)


def joined(modes, some):
    """The join of some modes, None if there are none."""
    require_some(modes, some)
    table = ModeTable(modes)
    held = None
    for mode in some:
        held = table.join_of(held, mode)
    return held


def may_stand(modes, some):
    """Whether different owners that take these modes at one item, in this order, are all granted."""
    require_some(modes, some)
    table = ModeTable(modes)
    held = None
    for mode in some:
        # Modes are exact, so the join of all that is held decides for each holder.
        if not table.allows(held, mode):
            return False
        held = table.join_of(held, mode)
    return True
