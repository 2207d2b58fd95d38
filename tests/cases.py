"""What many tests ask of the functions that take a system."""

import copy
import unittest

from samples import DOWN, ONE_WAY, ONLY_X, TWO, UP, changed, system_of
from stuckrows.errors import InvalidModes, InvalidSystem, InvalidTemplate, Mismatch

NO_SYSTEMS = [
    (5, InvalidSystem, {"part": "form"}), ((5, 5, 5), InvalidModes, {"part": "form"}),
    ((TWO, 5, 5), InvalidSystem, {"part": "fixed"}), ((TWO, (), 5), InvalidSystem, {"part": "templates"}),
    ((TWO, (), (UP, 5)), InvalidTemplate, {"template": 1, "step": -1}),
    ((ONE_WAY, (), (UP, changed(DOWN, 3, (("lock", "p", "s"),)))), InvalidTemplate, {"template": 1, "step": 0}),
]
FREES = ("frees", (), (), (("lock", "f", "x"), ("free", "f")))
NO_RINGS = [system_of(UP, modes=ONE_WAY), (ONLY_X, ("f",), (UP, FREES))]


def parts(value):
    """All lists and dicts in a value."""
    found = [value] if isinstance(value, (list, dict)) else []
    if isinstance(value, (list, tuple)):
        for entry in value:
            found += parts(entry)
    if isinstance(value, dict):
        for entry in value.values():
            found += parts(entry)
    return found


class Case(unittest.TestCase):

    def raises(self, error, values, function, *arguments, **named):
        with self.assertRaises(error) as caught:
            function(*arguments, **named)
        self.assertEqual(type(caught.exception), error)
        self.assertEqual({name: getattr(caught.exception, name) for name in values}, values)

    def same_by_keyword(self, function, **named):
        """By position and by keyword, twice, with arguments that stay as they are: always the same, and new."""
        before = copy.deepcopy(named)
        first = function(*named.values())
        kept = copy.deepcopy(first)
        second = function(**dict(reversed(list(named.items()))))
        self.assertEqual(first, second)
        self.assertEqual(named, before)
        mine = [id(part) for value in named.values() for part in parts(value)]
        ids = [id(part) for part in parts(first) + parts(second)]
        self.assertEqual(len(set(ids)), len(ids))
        self.assertFalse(set(ids) & set(mine))
        for part in parts(first):
            part.clear()
        self.assertEqual(function(*named.values()), kept)
        return second

    def tells_no_system(self, calls):
        """Each call, a function of a system alone, raises the errors of a system."""
        for call in calls:
            for system, error, values in NO_SYSTEMS:
                self.raises(error, values, call, system)

    def tells_no_rings(self, calls):
        """Each call raises Mismatch for systems of which rings do not speak."""
        for call in calls:
            for system in NO_RINGS:
                self.raises(Mismatch, {"name": "system"}, call, system)
