import random
import unittest

from brute import Plain
from chance import any_system
from samples import (
    DOWN, LOCK_PQ, LOOSE, ODD, ONE_WAY, ONLY_X, PAIR, READ_WRITE, TWO, UP, changed, greatest_system, system_of,
)
from stuckrows.errors import InvalidModes, InvalidNumber, InvalidSystem, InvalidTemplate, StuckError
from stuckrows.modes import standard
from stuckrows.templates import asked_at, check_system, held_at, lesser, positions

GATED = ("a", (("p", "acc"),), (), (("lock", "gate", "s"), ("lock", "p", "s"), ("lock", "p", "x")))
GOOD = system_of(UP, DOWN)


class CheckSystem(unittest.TestCase):

    def wrong(self, error, values, system):
        """The system is not one, and the error carries these values."""
        with self.assertRaises(error) as caught:
            check_system(system)
        self.assertEqual({key: caught.exception.__dict__[key] for key in values}, values)

    def wrong_template(self, template, step, index=0, before=()):
        self.wrong(InvalidTemplate, {"template": index, "step": step}, system_of(*before, template, fixed=("gate",)))

    def test_systems(self):
        for system in (GOOD, greatest_system(), system_of(GATED, fixed=("gate",)), system_of(UP, modes=ONE_WAY)):
            self.assertIsNone(check_system(system))
        self.assertIsNone(check_system(system=(ONE_WAY, ("f",), (("a", (), (), (("lock", "f", "y"),)),))))

    def test_form(self):
        for value in ODD + [GOOD[:2], GOOD + ((),), list(GOOD)]:
            self.wrong(InvalidSystem, {"part": "form"}, value)

    def test_modes(self):
        self.wrong(InvalidModes, {"part": "form"}, (list(TWO), 5, 5))
        self.wrong(InvalidModes, {"part": "allowed"}, changed(GOOD, 0, (("s",), (), 3)[:1] + (None, ())))
        self.wrong(InvalidModes, {"part": "exact"}, changed(GOOD, 0, (("s", "x"), (("x", "s"),), (("s", "x", "x"),))))

    def test_fixed(self):
        self.assertIsNone(check_system(changed(GOOD, 1, ("a", "b", "c", "d"))))
        self.assertIsNone(check_system(changed(GOOD, 1, ("acc",))))
        wrong = [["a"], ("a", "a"), ("a", "b", "c", "d", "e"), ("abcdefghijklm",), ("A",)]
        for value in wrong + [value for value in ODD if value != ()] + [(value,) for value in ODD]:
            self.wrong(InvalidSystem, {"part": "fixed"}, (TWO, value, 5))

    def test_templates(self):
        seven = tuple((name, PAIR, (), LOCK_PQ) for name in "abcdefg")
        self.assertIsNone(check_system((TWO, (), seven[:6])))
        for value in [seven, [UP], ()] + [value for value in ODD if not isinstance(value, tuple)]:
            self.wrong(InvalidSystem, {"part": "templates"}, (TWO, (), value))

    def test_template_forms(self):
        for value in ODD + [UP[:3], UP + ((),), list(UP)]:
            self.wrong_template(value, -1)
            self.wrong_template(value, -1, index=1, before=(GATED,))

    def test_template_names(self):
        for value in ODD + ["a" * 13, "Up"]:
            self.wrong_template(changed(UP, 0, value), -1)
        self.wrong_template(UP, -1, index=2, before=(UP[:1] + DOWN[1:], DOWN))
        # A name may be that of an item.
        self.assertIsNone(check_system(system_of(changed(UP, 0, "p"), changed(UP, 0, "gate"), fixed=("gate",))))

    def test_params(self):
        four = tuple((name, "t") for name in "pqrs")
        self.assertIsNone(check_system(system_of(("a", four, (), LOCK_PQ))))
        self.assertIsNone(check_system(system_of(("a", (("p", "p"), ("q", "gate")), (), LOCK_PQ), fixed=("gate",))))
        wrong = [
            list(PAIR), four + (("t", "t"),), (("p", "t"), ("p", "u")), (("p", "t"), ("gate", "t")), (["p", "t"],),
            (("p", "t", "u"),), (("p",),), (("P", "t"),), (("p", "t2"),), (("p", "abcdefghijklm"),), "pt",
        ]
        odd = [value for value in ODD if value != ()] + [(value,) for value in ODD]
        for value in wrong + odd + [(("p", value),) for value in ODD] + [((value, "t"),) for value in ODD]:
            self.wrong_template(("a", value, (), (("lock", "gate", "s"),)), -1)

    def test_orders(self):
        params = (("p", "t"), ("q", "t"), ("r", "u"), ("s", "t"))
        right = [(), (("p", "q"), ("p", "q")), (("p", "q"), ("q", "s"), ("p", "s")), (("s", "p"), ("q", "p"))]
        for orders in right:
            self.assertIsNone(check_system(system_of(("a", params, orders, LOCK_PQ))))
        wrong = [
            [("p", "q")], (["p", "q"],), (("p", "p"),), (("p", "q"), ("q", "p")), (("p", "r"),), (("p",),),
            (("p", "q", "s"),), (("p", "gate"),), (("p", "z"),), (("p", "q"), ("q", "s"), ("s", "p")), ("pq",),
        ]
        odd = [value for value in ODD if value != ()] + [(value,) for value in ODD]
        for value in wrong + odd + [(("p", value),) for value in ODD] + [((value, "p"),) for value in ODD]:
            self.wrong_template(("a", params, value, LOCK_PQ), -1)

    def test_number_of_steps(self):
        step = ("lock", "p", "s")
        self.assertIsNone(check_system(system_of(changed(UP, 3, (step,) * 8))))
        for value in [(step,) * 9, (), [step]] + [value for value in ODD if not isinstance(value, tuple)]:
            self.wrong_template(changed(UP, 3, value), -1)

    def test_steps(self):
        lock, free = ("lock", "p", "s"), ("free", "p")
        wrong = [
            ("lock", "p"), ("lock", "p", "s", "s"), ["lock", "p", "s"], ("take", "p", "s"), ("lock", "z", "s"),
            ("lock", "p", "y"), ("lock", "acc", "s"), ("free", "p", "s"), ("free",), ("free", "q"), ("free", "z"),
            ["free", "p"], ("free", "acc"), ("lock", ("acc", 1), "s"),
        ]
        odd = [("lock", value, "s") for value in ODD] + [("lock", "p", value) for value in ODD]
        odd += [(value, "p", "s") for value in ODD] + [(value, "p") for value in ODD] + [("free", value) for value in ODD]
        for value in wrong + ODD + odd:
            self.wrong_template(changed(UP, 3, (lock, value, free)), 1)
            self.wrong_template(changed(UP, 3, (value, 5)), 0)
        self.wrong_template(changed(UP, 3, (free,)), 0)
        self.wrong_template(changed(UP, 3, (lock, free, free)), 2)
        self.wrong_template(changed(UP, 3, (lock, free, lock)), 2)
        self.wrong_template(changed(UP, 3, (lock, free, ("lock", "q", "s"), lock, free, 5)), 3)
        self.wrong_template(changed(UP, 3, (lock, lock, ("lock", "gate", "x"), ("free", "gate"), ("lock", "gate", "s"))), 4)
        gate = (("lock", "gate", "x"), lock, ("lock", "p", "x"), ("free", "gate"), free)
        self.assertIsNone(check_system(system_of(changed(UP, 3, gate), fixed=("gate",))))

    def test_the_first_wrong_thing_decides(self):
        self.wrong(InvalidModes, {"part": "names"}, (((), 0, 0), 0, 0))
        self.wrong(InvalidSystem, {"part": "fixed"}, (TWO, 0, 0))
        self.wrong(InvalidSystem, {"part": "templates"}, (TWO, (), 0))
        step = ("lock", "z", "s")
        self.wrong_template(changed(UP, 3, (step, step)), 0)
        self.wrong(InvalidTemplate, {"template": 0, "step": 1}, (TWO, (), (changed(UP, 3, LOCK_PQ[:1] + (step,)), 0)))
        self.wrong(InvalidTemplate, {"template": 0, "step": -1}, (TWO, (), (changed(changed(UP, 3, (step,)), 2, 0), 0)))


class HoldsAndAsks(unittest.TestCase):

    def test_example(self):
        system = system_of(GATED, fixed=("gate",))
        told = [positions(system), held_at(system, 0, 2), asked_at(system, 0, 2)]
        self.assertEqual(told, [[(0, 0), (0, 1), (0, 2)], {"gate": "s", "p": "s"}, ("p", "x")])

    def test_what_is_locked_twice_freed_and_kept(self):
        steps = (
            ("lock", "p", "ix"), ("lock", "q", "is"), ("lock", "p", "s"), ("lock", "p", "is"), ("free", "p"),
            ("lock", "q", "is"), ("lock", "f", "u"), ("lock", "f", "x"),
        )
        system = (standard(), ("f",), (READ_WRITE, ("a", PAIR, (), steps)))
        self.assertEqual(positions(system), [(0, 0), (0, 1), (1, 0), (1, 1), (1, 2), (1, 6), (1, 7)])
        self.assertEqual([held_at(system, 1, step) for step in range(9)], [
            {}, {"p": "ix"}, {"p": "ix", "q": "is"}, {"p": "six", "q": "is"}, {"p": "six", "q": "is"}, {"q": "is"},
            {"q": "is"}, {"q": "is", "f": "u"}, {"q": "is", "f": "x"},
        ])
        self.assertEqual([asked_at(system, 1, step) for step in range(8)], [
            ("p", "ix"), ("q", "is"), ("p", "six"), None, None, None, ("f", "u"), ("f", "x"),
        ])

    def test_a_fixed_item_that_is_freed(self):
        steps = (("lock", "f", "s"), ("free", "f"), ("lock", "p", "s"))
        system = system_of(("a", PAIR, (), steps), fixed=("f",))
        self.assertEqual(positions(system), [(0, 0), (0, 2)])
        self.assertEqual(held_at(system, template=0, step=2), {})

    def test_modes_that_are_not_symmetric(self):
        steps = (("lock", "f", "y"), ("lock", "f", "x"), ("lock", "f", "y"))
        system = system_of(("a", (), (), steps), modes=ONE_WAY, fixed=("f",))
        self.assertEqual(positions(system=system), [(0, 0), (0, 1)])
        self.assertEqual(held_at(system, 0, 3), {"f": "x"})

    def test_lesser(self):
        params = (("s", "t"), ("q", "t"), ("r", "u"), ("p", "t"), )
        for orders, wanted in [
            ((), []), ((("q", "p"),), [("q", "p")]), ((("q", "p"), ("q", "p")), [("q", "p")]),
            ((("s", "q"), ("q", "p")), [("q", "p"), ("s", "p"), ("s", "q")]),
            ((("q", "s"), ("q", "p")), [("q", "p"), ("q", "s")]),
        ]:
            system = system_of(READ_WRITE, ("a", params, orders, LOCK_PQ))
            self.assertEqual(lesser(system, 1), wanted)
            self.assertEqual(lesser(system=system, template=0), [])
        four = tuple((name, "t") for name in "pqrs")
        chain = (("r", "s"), ("p", "q"), ("q", "r"))
        told = lesser(system_of(("a", four, chain, LOCK_PQ)), 0)
        self.assertEqual(told, [("p", "q"), ("p", "r"), ("p", "s"), ("q", "r"), ("q", "s"), ("r", "s")])

    def test_the_greatest_system(self):
        system = greatest_system()
        self.assertEqual(len(positions(system)), 48)
        self.assertEqual(len(held_at(system, 5, 8)), 8)
        self.assertEqual(asked_at(system, 5, 7), ("fixedfixedfd", "ix"))
        self.assertEqual(len(lesser(system, 5)), 6)

    def test_against_the_definitions(self):
        chance = random.Random(5)
        for _ in range(300):
            system = any_system(chance, 3, 2, (3, 6, 2))
            plain = Plain(system)
            self.assertEqual(positions(system), plain.positions())
            for template, (_, _, _, steps) in enumerate(system[2]):
                for step in range(len(steps)):
                    self.assertEqual(held_at(system, template, step), plain.holds_before(template, step)[0])
                    self.assertEqual(asked_at(system, template, step), plain.asked(template, step))

    def test_errors_of_a_system_come_first(self):
        calls = [
            lambda system: positions(system), lambda system: held_at(system, -1, -1),
            lambda system: asked_at(system, -1, -1), lambda system: lesser(system, -1),
        ]
        for call in calls:
            for system, error in [
                (5, InvalidSystem), ((5, 5, 5), InvalidModes), ((TWO, 5, 5), InvalidSystem),
                ((TWO, (), (5,)), InvalidTemplate),
            ]:
                with self.assertRaises(error):
                    call(system)

    def test_wrong_templates_and_steps(self):
        calls = [
            lambda template: held_at(GOOD, template, -5), lambda template: asked_at(GOOD, template, -5),
            lambda template: lesser(GOOD, template),
        ]
        for call in calls:
            for value in ODD + [2, -1, "0", (0,), [0]]:
                with self.assertRaises(InvalidNumber) as caught:
                    call(value)
                self.assertEqual(caught.exception.name, "template")
        for value in ODD + [3, -1, "0"]:
            for function in (held_at, asked_at):
                with self.assertRaises(InvalidNumber) as caught:
                    function(step=value, template=1, system=GOOD)
                self.assertEqual(caught.exception.name, "step")
        self.assertEqual(held_at(GOOD, 1, 2), {"p": "x", "q": "x"})
        with self.assertRaises(StuckError):
            asked_at(GOOD, 1, 2)

    def test_results_are_new(self):
        for call in (
            lambda: positions(GOOD), lambda: held_at(GOOD, 0, 1), lambda: lesser(GOOD, 0),
        ):
            first = call()
            kept = first.copy()
            first.clear()
            self.assertEqual(call(), kept)
            self.assertTrue(kept)

    def test_one_mode_and_no_params(self):
        system = (ONLY_X, ("f",), (("a", (), (), (("lock", "f", "x"), ("lock", "f", "x"))),))
        self.assertEqual([positions(system), lesser(system, 0)], [[(0, 0)], []])
        self.assertIsNone(check_system((ONLY_X, (), (LOOSE,))))


if __name__ == "__main__":
    unittest.main()
