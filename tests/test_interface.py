"""What the interface lists, where it lists it, with the arguments that the headings show."""

import importlib
import inspect
import unittest

LANDED = {
    "stuckrows.modes": {
        "check_modes": ["modes"], "standard": [], "is_symmetric": ["modes"], "joined": ["modes", "some"],
        "may_stand": ["modes", "some"],
    },
    "stuckrows.templates": {
        "check_system": ["system"], "positions": ["system"], "held_at": ["system", "template", "step"],
        "asked_at": ["system", "template", "step"], "lesser": ["system", "template"],
    },
    "stuckrows.rings": {
        "can_be_stuck": ["system"], "shortest_ring": ["system"], "fewest": ["system"],
        "shows_ring": ["system", "ring"], "ring_schedule": ["system", "ring"],
    },
}
ERRORS = (
    "StuckError InvalidModes InvalidSystem InvalidTemplate InvalidInstances InvalidSchedule InvalidOwner InvalidItem "
    "InvalidMode InvalidText InvalidLimits InvalidPrices InvalidNumber Waiting NotHeld Mismatch TooLarge"
).split()


class Interface(unittest.TestCase):

    def test_functions_and_their_arguments(self):
        for module, functions in LANDED.items():
            for name, arguments in functions.items():
                function = getattr(importlib.import_module(module), name)
                self.assertEqual(function.__module__, module)
                parameters = inspect.signature(function).parameters.values()
                self.assertEqual([parameter.name for parameter in parameters], arguments)
                for parameter in parameters:
                    self.assertIs(parameter.kind, inspect.Parameter.POSITIONAL_OR_KEYWORD)
                    self.assertIs(parameter.default, inspect.Parameter.empty)

    def test_errors(self):
        module = importlib.import_module("stuckrows.errors")
        for name in ERRORS:
            self.assertEqual(getattr(module, name).__module__, "stuckrows.errors")


if __name__ == "__main__":
    unittest.main()
