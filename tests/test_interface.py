"""What the interface lists, where it lists it, with the arguments that the headings show."""

import importlib
import inspect
import unittest

LANDED = {
    "stuckrows.modes": {
        "check_modes": ["modes"], "standard": [], "is_symmetric": ["modes"], "joined": ["modes", "some"],
        "may_stand": ["modes", "some"],
    },
    "stuckrows.templates": {
        "check_system": ["system"], "positions": ["system"], "held_at": ["system", "template", "step"],
        "asked_at": ["system", "template", "step"], "lesser": ["system", "template"],
    },
    "stuckrows.texts": {"system_text": ["system"], "read_system": ["text"]},
    "stuckrows.runs": {
        "play": ["system", "instances", "schedule"], "stuck_behind": ["system", "instances", "schedule"],
        "least_schedule": ["system", "instances", "all_of"], "outcomes": ["system", "instances"],
        "way_to": ["system", "instances", "turns"], "least_ahead": ["system", "instances", "turns"],
    },
    "stuckrows.ranks": {
        "blocking_holds": ["system"], "ranks": ["system"], "shows_ranks": ["system", "paper"],
        "first_fault": ["system", "paper"],
    },
    "stuckrows.rings": {
        "can_be_stuck": ["system"], "shortest_ring": ["system"], "fewest": ["system"],
        "shows_ring": ["system", "ring"], "ring_schedule": ["system", "ring"],
    },
    "stuckrows.limits": {
        "can_be_stuck_within": ["system", "limits"], "ring_within": ["system", "limits"], "least_counts": ["system"],
        "safe_limits": ["system"], "fewest_of": ["system", "template"],
    },
    "stuckrows.orders": {
        "further_orders": ["system"], "with_orders": ["system", "orders"], "least_orders": ["system", "most"],
        "orders_paper": ["system", "most"], "shows_fewest": ["system", "orders", "paper"],
        "needless_orders": ["system"], "fewest_kept": ["system"], "full_orders": ["system"],
    },
    "stuckrows.remedies": {
        "changes": ["system"], "with_changes": ["system", "some"], "least_remedy": ["system", "prices", "most"],
        "remedy_paper": ["system", "prices", "most"], "touched": ["system"],
        "shows_least": ["system", "prices", "most", "some", "paper"],
    },
    "stuckrows.levels": {
        "spread": ["system", "levels"], "escalated": ["system", "levels", "counts"],
        "bad_counts": ["system", "levels"],
    },
    "stuckrows.early": {
        "ahead_pairs": ["system", "instances", "schedule"], "order_of": ["system", "instances", "schedule"],
        "can_be_disorderly": ["system"], "shortest_disorder": ["system"], "fewest_disorderly": ["system"],
        "shows_disorder": ["system", "disorder"],
    },
    "stuckrows.frees": {
        "slots": ["system"], "places_now": ["system"], "with_places": ["system", "places"],
        "earliest": ["system", "order"], "calm_places": ["system"],
    },
    "stuckrows.strangers": {"stranger_ring": ["system", "stranger"], "safe_asks": ["system", "held"]},
    "stuckrows.companies": {
        "company_ring": ["system", "company"], "least_companies": ["system"], "safe_companies": ["system"],
        "least_removal": ["system", "prices"],
    },
}
# The arguments that are given by keyword, with their default values.
BY_KEYWORD = {("least_schedule", "all_of"): False}
LOCK_TABLE = {
    "__init__": ["modes"], "ask": ["owner", "item", "mode"], "let_go": ["owner", "item"], "finish": ["owner"],
    "holds_of": ["owner"], "holders_at": ["item"], "waiters_at": ["item"], "ask_of": ["owner"], "waits_for": ["owner"],
    "stuck_owners": [], "waiting_ring": [], "least_victims": ["prices"], "copied": [],
}
ERRORS = (
    "StuckError InvalidModes InvalidSystem InvalidTemplate InvalidInstances InvalidSchedule InvalidOwner InvalidItem "
    "InvalidMode InvalidText InvalidLimits InvalidPrices InvalidNumber Waiting NotHeld Mismatch TooLarge"
).split()


class Interface(unittest.TestCase):

    def test_functions_and_their_arguments(self):
        for module, functions in LANDED.items():
            for name, arguments in functions.items():
                function = getattr(importlib.import_module(module), name)
                self.assertEqual(function.__module__, module)
                parameters = inspect.signature(function).parameters.values()
                self.assertEqual([parameter.name for parameter in parameters], arguments)
                for parameter in parameters:
                    key = (name, parameter.name)
                    by_keyword = key in BY_KEYWORD
                    self.assertEqual(parameter.kind is inspect.Parameter.KEYWORD_ONLY, by_keyword)
                    self.assertEqual(parameter.kind is inspect.Parameter.POSITIONAL_OR_KEYWORD, not by_keyword)
                    self.assertIs(parameter.default, BY_KEYWORD.get(key, inspect.Parameter.empty))

    def test_methods_stand_in_the_class_itself(self):
        table = importlib.import_module("stuckrows.locks").LockTable
        self.assertEqual(table.__module__, "stuckrows.locks")
        for name, arguments in LOCK_TABLE.items():
            self.assertEqual(list(inspect.signature(vars(table)[name]).parameters), ["self"] + arguments)

    def test_errors(self):
        module = importlib.import_module("stuckrows.errors")
        for name in ERRORS:
            self.assertEqual(getattr(module, name).__module__, "stuckrows.errors")


if __name__ == "__main__":
    unittest.main()
