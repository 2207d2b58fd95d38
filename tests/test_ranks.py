import random
import unittest
from itertools import permutations, product

from brute import Plain
from chance import any_system
from samples import (
    DOWN, LOOSE, ODD, ONE_WAY, ONLY_S, ONLY_X, PAIR, READ_WRITE, TWO, UP, changed, greatest_system, nested,
    system_of,
)
from stuckrows.errors import InvalidModes, InvalidSystem, InvalidTemplate, Mismatch
from stuckrows.modes import standard
from stuckrows.ranks import blocking_holds, first_fault, ranks, shows_ranks
from stuckrows.rings import can_be_stuck

READ = ("r", (("p", "acc"),), (), (("lock", "g", "is"), ("lock", "p", "s")))
WRITE = ("w", (("p", "acc"),), (), (("lock", "p", "x"), ("lock", "g", "ix")))
EXAMPLE = (standard(), ("g",), (READ, WRITE))


class PlainRanks:
    """Blocking holds and papers, as the document tells them."""

    def __init__(self, system):
        self.plain = Plain(system)
        self.system = system
        tables = sorted({table for _, params, _, _ in system[2] for _, table in params})
        self.kinds = list(system[1]) + [(table,) for table in tables]
        self.holds = [
            (template, step, item)
            for template, step in self.plain.positions()
            for item in self.plain.holds_before(template, step)[0]
            if self.blocks(template, step, item)
        ]

    def kind(self, template, name):
        return (dict(self.system[2][template][1])[name],) if name not in self.system[1] else name

    def blocks(self, template, step, item):
        mode = self.plain.holds_before(template, step)[0][item]
        for other, place in self.plain.positions():
            name, ask = self.plain.asked(other, place)
            if self.kind(other, name) == self.kind(template, item) and (mode, ask) not in self.plain.allowed:
                return True
        return False

    def less(self, template, low, high):
        """Whether a row of orders leads from one param to the other one."""
        orders = self.system[2][template][2]
        reached = [q for p, q in orders if p == low]
        for one in reached:
            reached.extend(q for p, q in orders if p == one and q not in reached)
        return high in reached

    def fits(self, hold, paper):
        template, step, item = hold
        asked = self.plain.asked(template, step)[0]
        kinds = [kind for kind, _ in paper]
        held, other = self.kind(template, item), self.kind(template, asked)
        if held != other:
            return kinds.index(held) < kinds.index(other)
        way = dict(paper)[held]
        return self.less(template, item, asked) if way == "up" else self.less(template, asked, item)

    def fault(self, paper):
        against = [hold for hold in self.holds if not self.fits(hold, paper)]
        return against[0] if against else None

    def all_ranks(self):
        """All ranks, in the order in which the one that is wanted comes first."""
        for row in permutations(range(len(self.kinds))):
            for ways in product(("up", "down"), repeat=len(row)):
                yield [(self.kinds[place], way) for place, way in zip(row, ways)]


class Base(unittest.TestCase):

    def raises(self, error, values, call, *args, **named):
        with self.assertRaises(error) as caught:
            call(*args, **named)
        self.assertIs(type(caught.exception), error)
        self.assertEqual(caught.exception.__dict__, values)


class BlockingHolds(Base):

    def test_example(self):
        self.assertEqual(blocking_holds(EXAMPLE), [(1, 1, "p")])
        self.assertEqual(ranks(EXAMPLE), [(("acc",), "up"), ("g", "up")])

    def test_the_order_of_locking(self):
        params = (("p", "t"), ("q", "t"), ("r", "u"))
        steps = tuple(("lock", item, "x") for item in "rqgp") + (("free", "q"), ("lock", "r", "x"), ("lock", "g", "x"))
        other = ("b", (("z", "u"),), (), (("lock", "z", "x"),))
        told = blocking_holds(system=(ONLY_X, ("g",), (("a", params, (), steps), other)))
        self.assertEqual(told, [(0, 1, "r"), (0, 2, "r"), (0, 2, "q"), (0, 3, "r"), (0, 3, "q"), (0, 3, "g")])

    def test_conversions(self):
        self.assertEqual(blocking_holds(system_of(READ_WRITE)), [(0, 1, "p")])
        self.assertEqual(blocking_holds(system_of(changed(READ_WRITE, 3, (("lock", "p", "s"),) * 2))), [])
        # What is asked for is the join, not the mode of the step.
        steps = (("lock", "f", "ix"), ("lock", "f", "s"))
        look = ("look", (), (), (("lock", "f", "ix"), ("lock", "g", "x")))
        self.assertEqual(blocking_holds((standard(), ("f", "g"), (look,))), [])
        told = blocking_holds((standard(), ("f", "g"), (look, ("a", (), (), steps))))
        self.assertEqual(told, [(0, 1, "f"), (1, 1, "f")])

    def test_an_item_of_the_same_kind_of_another_template(self):
        # What is held in one table blocks what is asked for in the same table, in whatever template.
        hold = ("a", (("p", "t"), ("q", "u")), (), (("lock", "p", "s"), ("lock", "q", "s")))
        for table, wanted in (("t", [(0, 1, "p")]), ("u", []), ("v", [])):
            ask = ("b", (("p", table),), (), (("lock", "p", "x"),))
            self.assertEqual(blocking_holds(system_of(hold, ask)), wanted)
        # A step that asks for nothing more is no position, and what only is held is not asked for.
        steps = (("lock", "p", "x"), ("lock", "p", "s"))
        self.assertEqual(blocking_holds(system_of(("b", (("p", "t"),), (), steps))), [])

    def test_a_fixed_item_and_a_table_with_one_name(self):
        steps = (("lock", "t", "x"), ("lock", "p", "s"))
        system = (TWO, ("t",), (("a", (("p", "t"),), (), steps), ("b", (), (), (("lock", "t", "s"),))))
        self.assertEqual(blocking_holds(system), [(0, 1, "t")])
        self.assertEqual(ranks(system), [("t", "up"), (("t",), "up")])
        self.assertIs(shows_ranks(system, [(("t",), "up"), ("t", "up")]), False)

    def test_systems_without(self):
        for system in (system_of(LOOSE, modes=(("x",), (("x", "x"),), ())), (ONLY_S, ("f",), (
                ("a", PAIR, (), (("lock", "f", "s"), ("lock", "p", "s"), ("lock", "q", "s"))),))):
            self.assertEqual(blocking_holds(system), [])
            self.assertEqual(ranks(system), [("f", "up")] * len(system[1]) + [(("acc",), "up")])

    def test_intention_modes(self):
        # They allow all that is asked at their table.
        steps = (("lock", "f", "ix"), ("lock", "p", "x"), ("lock", "q", "x"))
        up = ("up", PAIR, (("p", "q"),), steps)
        self.assertEqual(blocking_holds((standard(), ("f",), (up,))), [(0, 2, "p")])
        whole = ("whole", (), (), (("lock", "f", "s"),))
        told = blocking_holds((standard(), ("f",), (up, whole)))
        self.assertEqual(told, [(0, 1, "f"), (0, 2, "f"), (0, 2, "p")])


class Ranks(Base):

    def test_ways(self):
        self.assertEqual(ranks(system_of(UP)), [(("acc",), "up")])
        self.assertEqual(ranks(system_of(DOWN)), [(("acc",), "down")])
        for system in (system_of(UP, DOWN), system_of(LOOSE), system_of(READ_WRITE)):
            self.assertIsNone(ranks(system))
            for way in ("up", "down"):
                self.assertIs(shows_ranks(system, [(("acc",), way)]), False)

    def test_orders_that_lead_by_way_of_others(self):
        params = (("p", "t"), ("q", "t"), ("r", "t"))
        steps = (("lock", "p", "x"), ("lock", "q", "x"))
        system = system_of(("a", params, (("p", "r"), ("r", "q")), steps))
        self.assertEqual(ranks(system), [(("t",), "up")])
        self.assertIsNone(ranks(system_of(("a", params, (("p", "r"), ("q", "r")), steps))))

    def test_the_first_possible_kind_at_each_place(self):
        params = (("p", "v"), ("q", "t"), ("r", "u"))
        none = ("a", params, (), (("lock", "p", "x"),))
        kinds = ["g", "f", ("t",), ("u",), ("v",)]
        system = (ONLY_X, ("g", "f"), (none,))
        self.assertEqual(ranks(system), [(kind, "up") for kind in kinds])
        for order, wanted in [
            ("pg", ["f", ("t",), ("u",), ("v",), "g"]),
            ("qf", ["g", ("t",), "f", ("u",), ("v",)]),
            ("rqg", ["f", ("u",), ("t",), "g", ("v",)]),
        ]:
            template = ("a", params, (), tuple(("lock", item, "x") for item in order))
            told = ranks((ONLY_X, ("g", "f"), (template,)))
            self.assertEqual(told, [(kind, "up") for kind in wanted])

    def test_tables_of_params_that_are_never_locked_are_kinds(self):
        system = (ONLY_X, (), (("a", (("p", "z"), ("q", "b")), (), (("lock", "p", "x"),)),))
        self.assertEqual(ranks(system), [(("b",), "up"), (("z",), "up")])
        self.assertIs(shows_ranks(system, [(("z",), "up")]), False)

    def test_circles_of_kinds(self):
        one = ("a", (), (), (("lock", "f", "x"), ("lock", "g", "x")))
        two = ("b", (), (), (("lock", "g", "x"), ("lock", "f", "x")))
        self.assertIsNone(ranks((ONLY_X, ("f", "g"), (one, two))))
        # A gate makes the order of the others unimportant, but it is no paper.
        gated = [changed(template, 3, (("lock", "k", "x"),) + template[3]) for template in (one, two)]
        system = (ONLY_X, ("f", "g", "k"), tuple(gated))
        self.assertEqual([ranks(system), can_be_stuck(system)], [None, False])

    def test_if_there_is_a_paper_nothing_can_be_stuck(self):
        chance = random.Random(31)
        found = {True: 0, False: 0}
        for _ in range(600):
            system = any_system(chance, 3, 2, (3, 4, 2))
            paper = ranks(system)
            if paper is not None:
                self.assertIs(can_be_stuck(system), False)
            found[paper is not None] += bool(blocking_holds(system))
        self.assertGreater(min(found.values()), 50)

    def test_the_greatest_system(self):
        system = greatest_system()
        self.assertEqual(ranks(system), [(("tabletablett",), "up")] + [(name, "up") for name in system[1]])
        self.assertGreater(len(blocking_holds(system)), 50)
        self.assertEqual(first_fault(system, ranks(system)[::-1]), (0, 4, "paramparamab"))

    def test_all_rows_of_kinds(self):
        chance = random.Random(32)
        found = {True: 0, False: 0}
        for _ in range(250):
            system = any_system(chance, 3, 2, (3, 4, 2))
            plain = PlainRanks(system)
            self.assertEqual(blocking_holds(system), plain.holds)
            papers = []
            for paper in plain.all_ranks():
                fault = plain.fault(paper)
                self.assertEqual(first_fault(system, paper), fault)
                if fault is None:
                    papers.append(paper)
            self.assertEqual(ranks(system), papers[0] if papers else None)
            found[bool(papers)] += bool(plain.holds)
            for paper in papers[-1:] + [chance.choice(list(plain.all_ranks()))]:
                self.assertIs(shows_ranks(system, tuple(paper)), paper in papers)
        self.assertGreater(min(found.values()), 30)


class Papers(Base):

    def test_shows_ranks(self):
        for paper in ([(("acc",), "up"), ("g", "up")], ((("acc",), "down"), ("g", "down"))):
            self.assertIs(shows_ranks(EXAMPLE, paper), True)
            self.assertIsNone(first_fault(EXAMPLE, paper))
        for paper in ([("g", "up"), (("acc",), "up")], (("g", "down"), (("acc",), "up"))):
            self.assertIs(shows_ranks(system=EXAMPLE, paper=paper), False)
            self.assertEqual(first_fault(paper=paper, system=EXAMPLE), (1, 1, "p"))

    def test_the_first_fault(self):
        system = system_of(UP, DOWN, READ_WRITE)
        self.assertEqual(first_fault(system, [(("acc",), "up")]), (1, 1, "p"))
        self.assertEqual(first_fault(system, [(("acc",), "down")]), (0, 1, "p"))
        self.assertEqual(first_fault(system_of(UP, READ_WRITE), [(("acc",), "up")]), (1, 1, "p"))

    def test_what_is_no_ranks(self):
        good = [(("acc",), "up"), ("g", "up")]
        wrong = ODD + [
            good[:1], good[1:], good + [good[0]], good[:1] * 2, good + [("h", "up")], [("acc", "up"), ("g", "up")],
            [(("acc",), "up"), (("g",), "up")], [(("acc",), "UP"), ("g", "up")], [(["acc"], "up"), ("g", "up")],
            [[("acc",), "up"], ("g", "up")], [(("acc",), "up", 1), ("g", "up")], [(("acc",),), ("g", "up")],
            {("acc",): "up", "g": "up"}, [("up", ("acc",)), ("up", "g")], [(("acc", "acc"), "up"), ("g", "up")],
        ]
        wrong += [[good[0], value] for value in ODD] + [[good[0], (value, "up")] for value in ODD]
        wrong += [[good[0], ("g", value)] for value in ODD] + [[((value,), "up"), good[1]] for value in ODD]
        wrong += [nested(list, 100000), [nested(tuple, 100000), good[1]]]
        for value in wrong:
            self.assertIs(shows_ranks(EXAMPLE, value), False)
            self.raises(Mismatch, {"name": "paper"}, first_fault, EXAMPLE, value)

    def test_results_are_new_and_arguments_stay(self):
        paper = [(("acc",), "up"), ("g", "up")]
        shows_ranks(EXAMPLE, paper), first_fault(EXAMPLE, paper)
        self.assertEqual(paper, [(("acc",), "up"), ("g", "up")])
        ranks(EXAMPLE).clear()
        blocking_holds(EXAMPLE).clear()
        self.assertEqual([ranks(EXAMPLE), blocking_holds(EXAMPLE)], [paper, [(1, 1, "p")]])


class Errors(Base):
    calls = [
        lambda system: blocking_holds(system), lambda system: ranks(system=system),
        lambda system: shows_ranks(system, 5), lambda system: first_fault(paper=5, system=system),
    ]

    def test_errors_of_a_system(self):
        for call in self.calls:
            for system, error, values in [
                (5, InvalidSystem, {"part": "form"}), ((5, 5, 5), InvalidModes, {"part": "form"}),
                ((TWO, 5, 5), InvalidSystem, {"part": "fixed"}), ((TWO, (), 5), InvalidSystem, {"part": "templates"}),
                ((TWO, (), (UP, 5)), InvalidTemplate, {"template": 1, "step": -1}),
                ((ONE_WAY, (), (UP, changed(DOWN, 3, (("lock", "p", "s"),)))), InvalidTemplate, {"template": 1, "step": 0}),
            ]:
                self.raises(error, values, call, system)

    def test_systems_of_which_rings_do_not_speak(self):
        freed = ("a", (), (), (("lock", "f", "x"), ("free", "f")))
        for system in (system_of(UP, modes=ONE_WAY), (ONLY_X, ("f",), (UP, freed))):
            for call in self.calls:
                self.raises(Mismatch, {"name": "system"}, call, system)


if __name__ == "__main__":
    unittest.main()
