import random
import unittest

from brute import Plain
from cases import FREES, NO_RINGS, Case
from chance import any_system, any_template
from samples import DOWN, LOOSE, ODD, ONE_WAY, ONLY_S, ONLY_X, READ_WRITE, TWO, UP, changed, greatest_system, nested, system_of
from stuckrows.errors import InvalidItem, InvalidMode, InvalidTemplate, Mismatch
from stuckrows.modes import standard
from stuckrows.rings import can_be_stuck, fewest, shows_ring
from stuckrows.strangers import safe_asks, stranger_ring

ROW = ("acc",)
TIES = ("less", "greater", "unlike", "same")


def with_stranger(system, stranger):
    return (system[0], system[1], system[2] + (stranger,))


def stranger_for(system, held, kind, mode, tie):
    """The stranger that safe_asks tells of, with names that are names."""
    params, steps = [], []
    if held is not None:
        item = held[0]
        if isinstance(item, tuple):
            params.append(("h", item[0]))
            item = "h"
        steps.append(("lock", item, held[1]))
    item = steps[0][1] if tie == "same" else kind
    if tie != "same" and isinstance(kind, tuple):
        params.append(("a", kind[0]))
        item = "a"
    orders = {"less": (("a", "h"),), "greater": (("h", "a"),)}.get(tie, ())
    return ("stranger", tuple(params), orders, tuple(steps) + (("lock", item, mode),))


def plain_asks(system, held):
    """All that a stranger may lock, by stranger_ring of each stranger."""
    plain = Plain(system)
    tables = sorted({table for template in system[2] for _, table in template[1]})
    found = []
    for kind in list(system[1]) + [(table,) for table in tables]:
        for mode in system[0][0]:
            ties = ["none"]
            if held is not None and held[0] == kind:
                ties = list(TIES) if isinstance(kind, tuple) else ["same"]
            for tie in ties:
                if tie == "same" and plain.join(held[1], mode) == held[1]:
                    continue
                if stranger_ring(system, stranger_for(system, held, kind, mode, tie)) is None:
                    found.append((kind, mode, tie))
    return found


class Examples(Case):

    def test_examples(self):
        up = ("up", (("p", "row"), ("q", "row")), (("p", "q"),), UP[3])
        down = ("down", (("u", "row"), ("v", "row")), (("v", "u"),), (("lock", "u", "x"), ("lock", "v", "x")))
        ring = stranger_ring((TWO, (), (up,)), down)
        self.assertEqual(sorted(member[:2] for member in ring), [(0, 1), (1, 1)])
        self.assertEqual(len(stranger_ring((TWO, (), (up,)), ("loose", up[1], (), up[3]))), 2)
        self.assertEqual(safe_asks((TWO, (), (up,)), (("row",), "x")), [(("row",), mode, "greater") for mode in "sx"])
        self.assertEqual(safe_asks((TWO, (), (up,)), None), [(("row",), mode, "none") for mode in "sx"])

    def test_exactly_one_stranger(self):
        # Two of them would be stuck, one alone is not; and rings without it do not count.
        only = ("only", (("p", "other"),), (), READ_WRITE[3])
        self.assertIsNone(stranger_ring(system_of(UP), only))
        self.assertEqual(fewest(system_of(UP, only)), 2)
        self.assertIsNone(stranger_ring(system_of(LOOSE), only))
        self.assertEqual(len(stranger_ring(system_of(LOOSE), DOWN)), 2)
        self.assertEqual(len(stranger_ring(system_of(only), ("more",) + only[1:])), 2)

    def test_who_holds_nothing_can_close_a_ring_by_standing_in_a_queue(self):
        # A reader of the row waits behind the stranger's writer, which waits for the other reader.
        system = system_of(("a", (("p", "acc"), ("q", "acc")), (("p", "q"),), (("lock", "p", "s"), ("lock", "q", "s"))))
        self.assertIs(can_be_stuck(system), False)
        self.assertEqual(safe_asks(system, None), [(ROW, "s", "none"), (ROW, "x", "none")])
        loose = changed(system[2][0], 2, ())
        ring = stranger_ring((TWO, (), (loose,)), ("w", (("p", "acc"),), (), (("lock", "p", "x"),)))
        self.assertIsNone(ring)
        both = (("p", "acc"), ("q", "other"))
        one = ("a", both, (), (("lock", "q", "x"), ("lock", "p", "s")))
        two = ("b", both, (), (("lock", "p", "s"), ("lock", "q", "s")))
        queue = system_of(one, two)
        self.assertIs(can_be_stuck(queue), False)
        writer = ("w", (("p", "acc"),), (), (("lock", "p", "x"),))
        ring = stranger_ring(queue, writer)
        self.assertEqual(sorted(member[:2] for member in ring), [(0, 1), (1, 1), (2, 0)])
        self.assertIs(shows_ring(with_stranger(queue, writer), ring), True)
        self.assertEqual(safe_asks(queue, None), [(ROW, "s", "none"), (("other",), "s", "none"), (("other",), "x", "none")])

    def test_fixed_items(self):
        gate = ("a", (("p", "acc"),), (), (("lock", "f", "x"), ("lock", "p", "x")))
        system = (TWO, ("f", "g"), (gate,))
        self.assertEqual(safe_asks(system, ("f", "s")), [
            ("f", "x", "same"), ("g", "s", "none"), ("g", "x", "none"), (ROW, "s", "none"), (ROW, "x", "none")])
        self.assertEqual(safe_asks(system, (ROW, "x")), [("g", "s", "none"), ("g", "x", "none")] + [
            (ROW, mode, tie) for mode in "sx" for tie in TIES[:3]])
        self.assertEqual(safe_asks(system, ("f", "x"))[:1], [("g", "s", "none")])
        only = (ONLY_S, ("f",), (("a", (), (), (("lock", "f", "s"),)),))
        self.assertEqual([safe_asks(only, None), safe_asks(only, ("f", "s"))], [[("f", "s", "none")], []])
        # No fixed items and no params: there is nothing to ask for.
        self.assertEqual(safe_asks(system_of(("a", (), (), (("lock", "f", "x"),)), fixed=("f",)), None), [("f", "s", "none"), ("f", "x", "none")])

    def test_held_rows(self):
        self.assertEqual(safe_asks(system_of(READ_WRITE), (ROW, "s")), [
            (ROW, mode, tie) for mode in "sx" for tie in TIES[:3]])
        self.assertEqual(safe_asks(system_of(READ_WRITE), (ROW, "x")), [(ROW, mode, tie) for mode in "sx" for tie in TIES[:3]])
        self.assertEqual(safe_asks(system_of(DOWN), (ROW, "x")), [(ROW, mode, "less") for mode in "sx"])

    def test_six_templates_and_a_stranger(self):
        system = greatest_system()
        stranger = ("stranger", system[2][0][1], system[2][0][2], system[2][0][3])
        self.assertIsNone(stranger_ring(system, stranger))
        back = changed(stranger, 2, tuple((high, low) for low, high in stranger[2]))
        ring = stranger_ring(system, back)
        self.assertEqual([sum(member[0] == 6 for member in ring), len(ring)], [1, 2])
        name = system[2][5][0]
        self.raises(InvalidTemplate, {"template": 6, "step": -1}, stranger_ring, system, changed(stranger, 0, name))
        self.assertEqual(len(safe_asks(system, None)), 30)

    def test_each_answer_is_always_the_same_and_new(self):
        self.same_by_keyword(stranger_ring, system=system_of(UP, READ_WRITE), stranger=DOWN)
        self.same_by_keyword(safe_asks, system=system_of(UP, READ_WRITE), held=(ROW, "s"))
        self.same_by_keyword(safe_asks, system=system_of(UP), held=None)


class Drawn(Case):

    def test_all_rings_of_few_members(self):
        chance = random.Random(131)
        seen = {}
        for _ in range(400):
            system = any_system(chance, 2, 1, (2, 4, 2))
            stranger = any_template(chance, "stranger", system[0], system[1], (2, 4, 2))
            if not stranger[3]:
                continue
            whole = with_stranger(system, stranger)
            last = len(system[2])
            ring = stranger_ring(system, stranger)
            plain = Plain(whole)
            sizes = [len(one) for one in plain.all_rings(3, range(3)) if sum(member[0] == last for member in one) == 1]
            if sizes:
                self.assertLessEqual(len(ring), min(sizes))
            if ring is not None:
                self.assertEqual(sum(member[0] == last for member in ring), 1)
                self.assertTrue(plain.is_ring(ring))
                if len(ring) == 2:
                    self.assertEqual(min(sizes), 2)
            if not can_be_stuck(whole):
                self.assertIsNone(ring)
            size = None if ring is None else len(ring)
            seen[size] = seen.get(size, 0) + 1
        self.assertGreater(min(seen.get(size, 0) for size in (None, 2, 3)), 2, seen)

    def test_all_asks(self):
        chance = random.Random(132)
        found = 0
        for _ in range(120):
            system = any_system(chance, 2, 2, (2, 4, 2))
            tables = sorted({table for template in system[2] for _, table in template[1]})
            kinds = list(system[1]) + [(table,) for table in tables]
            for held in [None] + [(kind, chance.choice(system[0][0])) for kind in kinds]:
                asks = plain_asks(system, held)
                self.assertEqual(safe_asks(system, held), asks)
                found += bool(asks)
        self.assertGreater(found, 50)


class Errors(Case):

    def test_systems(self):
        calls = [lambda system: stranger_ring(system, 5), lambda system: safe_asks(held=5, system=system)]
        self.tells_no_system(calls)
        self.tells_no_rings([lambda system: stranger_ring(system, DOWN), lambda system: safe_asks(system, None)])

    def test_strangers(self):
        for system in (system_of(UP), NO_RINGS[0]):
            for value in ODD + [UP, list(DOWN), DOWN[:3], changed(DOWN, 1, 5), changed(DOWN, 3, ()), nested(tuple, 100000)]:
                self.raises(InvalidTemplate, {"template": 1, "step": -1}, stranger_ring, system, value)
            for place in range(2):
                for step in [("lock", "p", "z"), ("lock", "z", "x"), 5]:
                    wrong = changed(DOWN, 3, changed(DOWN[3], place, step))
                    self.raises(InvalidTemplate, {"template": 1, "step": place}, stranger_ring, stranger=wrong, system=system)
        self.raises(Mismatch, {"name": "system"}, stranger_ring, (ONLY_X, ("f",), (UP,)), FREES)
        self.raises(Mismatch, {"name": "system"}, stranger_ring, (ONE_WAY, ("f",), (UP,)), FREES)
        # A param of the stranger must not be called as a fixed item.
        self.raises(InvalidTemplate, {"template": 1, "step": -1}, stranger_ring, (TWO, ("q",), (READ_WRITE,)), DOWN)

    def test_held(self):
        for system in (system_of(UP, fixed=("f",)), (ONE_WAY, ("f",), (UP,))):
            wrong = [value for value in ODD if value is not None]
            wrong += [[ROW, "x"], (ROW,), (ROW, "x", "x"), ("acc", "x"), (("f",), "x"), (["acc"], "x"), (("t",), "x"), ("g", "x"), nested(tuple, 100000)]
            wrong += [(value, "x") for value in ODD if value is not None]
            for value in wrong:
                with self.assertRaises(InvalidItem) as caught:
                    safe_asks(system, value)
                self.assertIs(caught.exception.item, value)
            for kind in ("f", ROW):
                for value in ODD + ["z"]:
                    if value == "s" and "s" in system[0][0]:
                        continue
                    with self.assertRaises(InvalidMode) as caught:
                        safe_asks(system, (kind, value))
                    self.assertIs(caught.exception.mode, value)
        self.assertEqual(standard()[0][0], "is")


if __name__ == "__main__":
    unittest.main()
