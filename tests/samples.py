"""Systems and wrong values that several tests use."""

from stuckrows.errors import StuckError
from stuckrows.modes import standard

TWO = (("s", "x"), (("s", "s"),), (("s", "x", "x"),))
ONLY_X = (("x",), (), ())
# One mode that allows itself, and nothing to join.
ONLY_S = (("s",), (("s", "s"),), ())
# y may be given while x is held, but not the other way round.
ONE_WAY = (("x", "y"), (("x", "y"), ("y", "y")), (("x", "y", "x"),))

PAIR = (("p", "acc"), ("q", "acc"))
LOCK_PQ = (("lock", "p", "x"), ("lock", "q", "x"))
UP = ("up", PAIR, (("p", "q"),), LOCK_PQ)
DOWN = ("down", PAIR, (("q", "p"),), LOCK_PQ)
LOOSE = ("loose", PAIR, (), LOCK_PQ)
READ_WRITE = ("readwrite", (("p", "acc"),), (), (("lock", "p", "s"), ("lock", "p", "x")))


def function_of_this_file():
    return None


def nested(kind, depth):
    """A value of a kind in a value of this kind, and so on."""
    value = kind(())
    for _ in range(depth):
        value = kind((value,))
    return value


# An object of many a built-in kind; none of them is anything that the package takes.
ODD = [
    None, True, False, -1, 99, 10 ** 5000, 2 + 3j, "", "x" * 13, "S", "\u00e9", "no name", b"s", [], ["s"], (), ((),),
    {}, {"s": 1}, set(), {"s"}, frozenset(), range(3), slice(1), bytearray(b"s"), memoryview(b"s"), object(),
    Ellipsis, NotImplemented, len, int, function_of_this_file, StuckError("s"), StuckError, iter([]),
    nested(tuple, 50000), nested(list, 50000),
]


def system_of(*templates, modes=TWO, fixed=()):
    return (modes, fixed, templates)


def greatest_system():
    """As large as a system may be in each way."""
    fixed = ("fixedfixedfa", "fixedfixedfb", "fixedfixedfc", "fixedfixedfd")
    templates = []
    for letter in "abcdef":
        params = tuple(("paramparam" + letter + last, "tabletablett") for last in "abcd")
        items = [name for name, _ in params] + list(fixed)
        orders = tuple((low[0], high[0]) for low, high in zip(params, params[1:]))
        modes = ("is", "ix", "s", "u", "six", "x", "is", "ix")
        steps = tuple(("lock", item, mode) for item, mode in zip(items, modes))
        templates.append(("templatetem" + letter, params, orders, steps))
    return (standard(), fixed, tuple(templates))


def changed(values, place, value):
    """A tuple with another value at a place."""
    return values[:place] + (value,) + values[place + 1:]
