import random
import unittest

from brute import Plain
from cases import Case
from chance import any_system
from samples import LOCK_PQ, ODD, ONLY_S, ONLY_X, TWO, UP, changed, nested, system_of
from stuckrows.errors import Mismatch, TooLarge
from stuckrows.levels import bad_counts, escalated, spread
from stuckrows.modes import standard
from stuckrows.rings import can_be_stuck, fewest
from stuckrows.templates import check_system

LEVELS = (("s", "is", "s"), ("u", "ix", "x"), ("x", "ix", "x"))
PAIR = (("p", "t"), ("q", "t"))
COPY = ("copy", PAIR, (("p", "q"),), (("lock", "p", "s"), ("lock", "q", "x")))
ADD = ("add", PAIR, (("p", "q"),), (("lock", "p", "x"), ("lock", "q", "x")))


def usual(*templates, fixed=()):
    return (standard(), fixed, templates)


def locks(*rows):
    return tuple(("lock", item, mode) if mode else ("free", item) for item, mode in rows)


def plain_rewriting(system, levels, counts):
    """What spread and escalated return, told step by step."""
    plain = Plain(system)
    intention = {mode: weak for mode, weak, _ in levels}
    whole = {mode: strong for mode, _, strong in levels}
    templates = []
    for name, params, orders, steps in system[2]:
        table_of = dict(params)
        made = []
        for place, step in enumerate(steps):
            table = table_of.get(step[1])
            if table is None:
                made.append(step)
                continue
            if step[0] == "free":
                if ("lock", step[1]) in [one[:2] for one in made]:
                    made.append(step)
                continue
            before = [one for one in steps[:place + 1] if one[0] == "lock" and table_of.get(one[1]) == table]
            held = None
            for one in made:
                if one[:2] == ("lock", table):
                    held = plain.join(held, one[2])
            if table in counts and len({one[1] for one in before}) >= counts[table]:
                mode = None
                for one in before:
                    mode = plain.join(mode, whole[one[2]])
                if held is None or plain.join(held, mode) != held:
                    made.append(("lock", table, mode))
            else:
                mode = intention[step[2]]
                if held is None or plain.join(held, mode) != held:
                    made.append(("lock", table, mode))
                made.append(step)
        templates.append((name, params, orders, tuple(made)))
    tables = sorted({table for template in system[2] for _, table in template[1]})
    return (system[0], system[1] + tuple(tables), tuple(templates))


class Examples(Case):

    def test_examples(self):
        wide = spread(usual(COPY), LEVELS)
        self.assertEqual([wide[1], wide[2][0][3]], [("t",), locks(("t", "is"), ("p", "s"), ("t", "ix"), ("q", "x"))])
        self.assertEqual([escalated(usual(COPY), LEVELS, {"t": count})[2][0][3] for count in (1, 2)], [
            locks(("t", "s"), ("t", "x")), locks(("t", "is"), ("p", "s"), ("t", "x"))])
        self.assertEqual(bad_counts(usual(ADD), LEVELS), {"t": {2: 2}})

    def test_spread(self):
        # The intention is that of the step's mode, not of the join with what is held; what covers it stands.
        steps = locks(("f", "s"), ("p", "x"), ("q", "s"), ("p", "s"), ("f", "x"), ("q", None))
        system = usual(("a", PAIR, (), steps), ("b", (("p", "u"),), (), locks(("p", "u"))), fixed=("f",))
        made = spread(system, LEVELS)
        self.assertEqual(made[1], ("f", "t", "u"))
        self.assertEqual(made[2][0][3], locks(("f", "s"), ("t", "ix"), ("p", "x"), ("q", "s"), ("p", "s"), ("f", "x"), ("q", None)))
        self.assertEqual(made[2][1][3], locks(("u", "ix"), ("p", "u")))
        self.assertEqual([made[0], made[2][0][:3]], [system[0], system[2][0][:3]])
        # A param that is never locked has a table, too, and nothing is asked of it.
        self.assertEqual(spread(usual(changed(COPY, 3, locks(("p", "s")))), LEVELS)[1], ("t",))
        self.assertEqual(spread((TWO, ("f",), (("a", (), (), locks(("f", "s"))),)), ()), (TWO, ("f",), (("a", (), (), locks(("f", "s"))),)))
        self.assertEqual(spread((TWO, (), (("a", (("p", "z"), ("q", "y")), (), locks(("q", "s"))),)), (("s", "s", "x"),))[1], ("y", "z"))

    def test_escalated(self):
        steps = locks(("p", "s"), ("p", None), ("q", "s"), ("q", "x"), ("r", "s"), ("q", None))
        system = usual(("a", PAIR + (("r", "t"), ("v", "w")), (), steps))
        rows = [escalated(system, LEVELS, {"t": count})[2][0][3] for count in (1, 2, 3, 4, 10 ** 100)]
        self.assertEqual(rows[0], locks(("t", "s"), ("t", "x")))
        # Freed ones count, too.
        self.assertEqual(rows[1], locks(("t", "is"), ("p", "s"), ("p", None), ("t", "s"), ("t", "x")))
        self.assertEqual(rows[2], locks(
            ("t", "is"), ("p", "s"), ("p", None), ("q", "s"), ("t", "ix"), ("q", "x"), ("t", "x"), ("q", None)))
        self.assertEqual(rows[3:], [spread(system, LEVELS)[2][0][3]] * 2)
        # Also params that were locked before lock the table then; their rows stay locked, and are freed.
        steps = locks(("p", "s"), ("q", "s"), ("p", "x"), ("q", None), ("p", None))
        made = escalated(usual(("a", PAIR, (), steps)), LEVELS, {"t": 2})
        self.assertEqual(made[2][0][3], locks(("t", "is"), ("p", "s"), ("t", "s"), ("t", "x"), ("p", None)))
        two = usual(("a", (("p", "t"), ("q", "u")), (), locks(("p", "s"), ("q", "x"))))
        self.assertEqual(escalated(two, LEVELS, {"u": 1})[2][0][3], locks(("t", "is"), ("p", "s"), ("u", "x")))
        self.assertEqual(escalated(two, LEVELS, {})[2], spread(two, LEVELS)[2])

    def test_more_than_eight_steps(self):
        modes = ("s", "x", "s", "x", "x")
        five = ("five", tuple((p, "t" + p) for p in "pqrs"), (), locks(*zip("pqrsp", modes)))
        self.raises(TooLarge, {"limit": 8}, spread, usual(five), LEVELS)
        self.raises(TooLarge, {"limit": 8}, bad_counts, usual(five), LEVELS)
        # As escalated rewrites it, it has no more than eight.
        self.raises(TooLarge, {"limit": 8}, escalated, usual(five), LEVELS, {"tq": 1})
        self.assertEqual(len(escalated(usual(five), LEVELS, {"tq": 1, "tr": 1})[2][0][3]), 8)
        self.assertEqual(len(spread(usual(changed(five, 3, five[3][:4])), LEVELS)[2][0][3]), 8)
        self.raises(Mismatch, {"name": "counts"}, escalated, usual(five), LEVELS, {"tq": 0})

    def test_bad_counts(self):
        self.assertEqual(bad_counts(usual(COPY, ADD), LEVELS), {"t": {1: 2, 2: 2}})
        self.assertEqual(bad_counts(usual(("a", (("p", "t"), ("q", "u")), (), locks(("p", "s")))), LEVELS), {"t": {}, "u": {}})
        self.assertEqual(bad_counts((ONLY_S, ("f",), (("a", (), (), locks(("f", "s"))),)), (("s", "s", "s"),)), {})
        three = ("three", PAIR + (("r", "t"),), (("p", "q"), ("q", "r")), locks(("p", "x"), ("q", "x"), ("r", "x")))
        self.assertEqual(bad_counts(usual(three), LEVELS), {"t": {2: 2, 3: 2}})

    def test_each_answer_is_always_the_same_and_new(self):
        self.same_by_keyword(spread, system=usual(COPY, ADD), levels=LEVELS)
        self.same_by_keyword(escalated, system=usual(COPY, ADD), levels=LEVELS, counts={"t": 2})
        self.same_by_keyword(bad_counts, system=usual(COPY, ADD), levels=LEVELS)


class Drawn(Case):

    def test_step_by_step(self):
        chance = random.Random(101)
        seen = {"spread": 0, "escalated": 0, "large": 0, "bad": 0}
        for _ in range(500):
            system = any_system(chance, 2, 1, (4, 6, 2))
            names = system[0][0]
            levels = tuple((mode, chance.choice(names), chance.choice(names)) for mode in names)
            tables = sorted({table for template in system[2] for _, table in template[1]})
            seen["spread"] += self.compare(spread, system, levels, {})
            for _ in range(3):
                counts = {table: chance.randint(1, 4) for table in tables if chance.random() < 0.7}
                small = self.compare(lambda one, two: escalated(one, two, counts), system, levels, counts)
                seen["escalated"] += small
                seen["large"] += not small
            if len(plain_rewriting(system, levels, {})[2][0][3]) <= 8:
                seen["bad"] += self.bad(system, levels, tables)
        for word, count in seen.items():
            self.assertGreater(count, 30, word)

    def compare(self, function, system, levels, counts):
        expected = plain_rewriting(system, levels, counts)
        if any(len(template[3]) > 8 for template in expected[2]):
            self.raises(TooLarge, {"limit": 8}, function, system, levels)
            return False
        made = function(system, levels)
        self.assertEqual(made, expected)
        check_system(made)
        return True

    def bad(self, system, levels, tables):
        if any(len(template[3]) > 8 for template in plain_rewriting(system, levels, {})[2]):
            self.raises(TooLarge, {"limit": 8}, bad_counts, system, levels)
            return 0
        found = {}
        for table in tables:
            most = max(
                len({step[1] for step in steps if step[0] == "lock" and dict(params).get(step[1]) == table})
                for _, params, _, steps in system[2])
            rows = {count: fewest(plain_rewriting(system, levels, {table: count})) for count in range(1, most + 1)}
            found[table] = {count: size for count, size in rows.items() if size is not None}
        self.assertEqual(bad_counts(system, levels), found)
        return any(found.values())

    def test_intentions_that_allow_one_another_change_nothing(self):
        chance = random.Random(102)
        stuck = {True: 0, False: 0}
        while min(stuck.values()) < 25:
            system = any_system(chance, 2, 1, (3, 4, 2))
            if system[0] != standard():
                continue
            levels = tuple((mode, chance.choice(["is", "ix"]), chance.choice(standard()[0])) for mode in standard()[0])
            answer = can_be_stuck(system)
            self.assertIs(can_be_stuck(spread(system, levels)), answer)
            stuck[answer] += 1


class Errors(Case):
    levels = (("x", "x", "x"), ("s", "s", "x"))

    def test_systems(self):
        calls = [
            lambda system: spread(system, 5), lambda system: escalated(system, 5, 5), lambda system: bad_counts(levels=5, system=system),
        ]
        self.tells_no_system(calls)
        self.tells_no_rings(calls)

    def calls(self, system):
        return [
            lambda levels: spread(system, levels), lambda levels: escalated(system, levels, 5),
            lambda levels: bad_counts(system, levels),
        ]

    def test_levels(self):
        # Mismatch("levels") comes before Mismatch("fixed").
        for system in (system_of(UP), system_of(UP, fixed=("acc",))):
            wrong = ODD + [(("s", "s", "s"),), list(self.levels), self.levels + (("x", "s", "s"),), (("x", "x"),), (("x", "x", "x", "x"),)]
            wrong += [(["x", "x", "x"],), (("x", "x", "z"),), (("x", "ix", "x"),), {"x": ("x", "x")}, nested(tuple, 100000)]
            wrong += [self.levels + (value,) for value in ODD] + [(("x", value, "x"),) for value in ODD]
            wrong += [(("x", "x", "x"), (value, "x", "x")) for value in ODD] + [(("x", "x", value),) for value in ODD]
            for call in self.calls(system):
                for value in wrong:
                    self.raises(Mismatch, {"name": "levels"}, call, value)
        # Only modes that a step has with a param must be there; needless ones may.
        gate = ("gate", (("p", "t"),), (), locks(("f", "s"), ("p", "x"), ("f", "x")))
        for levels in (self.levels, self.levels[:1]):
            self.assertEqual(spread(system_of(gate, fixed=("f",)), levels)[1], ("f", "t"))
        self.raises(Mismatch, {"name": "levels"}, spread, system_of(gate, fixed=("f",)), self.levels[1:])
        join = ("join", (("p", "t"),), (), locks(("p", "is"), ("p", "ix"), ("p", "s")))
        self.raises(Mismatch, {"name": "levels"}, spread, usual(join), (("is", "is", "is"), ("six", "is", "is"), ("ix", "is", "is")))
        self.assertEqual(len(spread(usual(join), (("is", "is", "is"), ("s", "is", "is"), ("ix", "is", "is")))[2][0][3]), 4)

    def test_tables_that_cannot_be_fixed_items(self):
        other = ("other", (("acc", "t"),), (), locks(("acc", "x")))
        many = ("many", tuple((p, "t" + p) for p in "pqrs"), (), locks(("p", "x")))
        for system in (system_of(UP, fixed=("acc",)), system_of(UP, other), system_of(UP, many), system_of(many, fixed=("f",)),
                       system_of(("same", (("p", "p"),), (), LOCK_PQ[:1]))):
            for call in self.calls(system):
                self.raises(Mismatch, {"name": "fixed"}, call, self.levels)
        self.assertEqual(spread(system_of(many), self.levels)[1], ("tp", "tq", "tr", "ts"))
        self.assertEqual(spread(system_of(UP, fixed=("f", "g", "h")), self.levels)[1], ("f", "g", "h", "acc"))
        # The name of a template is no item.
        self.assertEqual(spread(system_of(changed(UP, 0, "acc")), self.levels)[1], ("acc",))

    def test_counts(self):
        wrong = [value for value in ODD if value != {}] + [{"acc": value} for value in ODD if value not in (99, 10 ** 5000)]
        wrong += [{"acc": 0}, {"acc": 1, "t": 1}, {"p": 1}, {1: 1}, {("acc",): 1}, [("acc", 1)], nested(list, 100000)]
        for value in wrong:
            self.raises(Mismatch, {"name": "counts"}, escalated, system_of(UP), self.levels, value)
            self.raises(Mismatch, {"name": "counts"}, escalated, counts=value, levels=self.levels, system=system_of(UP))
        self.raises(Mismatch, {"name": "fixed"}, escalated, system_of(UP, fixed=("acc",)), self.levels, 5)
        self.assertEqual(escalated((ONLY_X, (), (UP,)), self.levels[:1], {"acc": 10 ** 5000})[1], ("acc",))


if __name__ == "__main__":
    unittest.main()
