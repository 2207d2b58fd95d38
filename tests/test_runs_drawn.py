"""Runs of two and three instances, drawn, with all schedules followed plainly in a lock table."""

import random
import unittest
from itertools import product

from lockplay import PlainRun
from samples import TWO
from stuckrows.errors import TooLarge
from stuckrows.modes import check_modes, standard
from stuckrows.plans import Plan
from stuckrows.runs import least_ahead, least_schedule, outcomes, play, way_to
from stuckrows.states import States
from test_early import any_early_steps


def uneven_modes(chance, count, names):
    """Some modes, drawn, that need not be symmetric."""
    pairs = list(product(names, repeat=2))
    found = []
    while len(found) < count:
        allowed = tuple(pair for pair in pairs if chance.random() < 0.5)
        joins = tuple((m, n, chance.choice(names)) for at, n in enumerate(names) for m in names[:at])
        modes = (tuple(names), allowed, tuple(sorted(joins)))
        if check_modes(modes) is None:
            found.append(modes)
    return found


class Followed:
    """All states to which schedules of some instances lead, with the least schedule and how many lead there."""

    def __init__(self, system, instances):
        start = PlainRun(system, instances)
        self.size = len(instances)
        self.layers = [{start.state(): [start, (), 1]}]
        # Of those in which nobody ever waits: from how many turns of each instance to which.
        self.calm = {tuple(start.done): {}}
        self.granted = 0
        while self.layers[-1]:
            self.layers.append(self.next_layer())

    def next_layer(self):
        layer = {}
        for run, schedule, ways in self.layers[-1].values():
            for index in run.with_turn():
                after = run.after(index)
                self.granted += sum(after.done) > sum(run.done) + 1
                row = layer.setdefault(after.state(), [after, schedule + (index,), 0])
                row[1] = min(row[1], schedule + (index,))
                row[2] += ways
                if not run.table.waiting and not after.table.waiting and tuple(run.done) in self.calm:
                    self.calm[tuple(run.done)][index] = tuple(after.done)
                    self.calm.setdefault(tuple(after.done), {})
        return layer

    def rows(self):
        return [row for layer in self.layers for row in layer.values()]

    def least_stuck(self, wanted):
        for layer in self.layers:
            found = [schedule for run, schedule, _ in layer.values() if len(run.table.stuck()) >= wanted]
            if found:
                return list(min(found))
        return None

    def outcomes(self):
        ends = [(run, ways) for run, _, ways in self.rows() if not run.with_turn()]
        whole = sum(ways for run, ways in ends if not run.table.waiting)
        return (whole, sum(ways for _, ways in ends) - whole)

    def ways(self, turns):
        """The least way to so many turns, and what least_ahead tells of it; None if there is none."""
        leads = {tuple(turns)} & set(self.calm)
        while True:
            more = {done for done, moves in self.calm.items() if set(moves.values()) & leads} - leads
            if not more:
                break
            leads |= more
        start = (0,) * self.size
        if start not in leads:
            return None, None
        way, done = [], start
        while done != tuple(turns):
            index = min(index for index, target in self.calm[done].items() if target in leads)
            way.append(index)
            done = self.calm[done][index]
        seen, todo = set(), [start]
        ahead = [[[] for _ in range(count)] for count in turns]
        while todo:
            done = todo.pop()
            for index, target in self.calm[done].items():
                if target in leads:
                    ahead[index][done[index]].append(done)
                    if target not in seen:
                        seen.add(target)
                        todo.append(target)
        return way, [[tuple(map(min, zip(*found))) for found in row] for row in ahead]


class Drawn(unittest.TestCase):

    def draw(self, chance, modes):
        """A system with conversions and frees, also of a fixed item, and two or three instances with few keys."""
        templates = []
        for name in ("one", "two")[:chance.randint(1, 2)]:
            params = tuple((param, "t") for param in "pq"[:chance.randint(0, 2)])
            items = [param for param, _ in params] + ["f"]
            steps = any_early_steps(chance, items, modes, chance.randint(1, 4), chance.choice([0, 0.25, 0.4]))
            templates.append((name, params, (), steps))
        some = []
        for _ in range(chance.choice([2, 3, 3])):
            index = chance.randrange(len(templates))
            some.append((index, tuple(chance.sample(range(2), len(templates[index][1])))))
        return (modes, ("f",), tuple(templates)), some

    def test_all_schedules_followed(self):
        chance = random.Random(41)
        modes = uneven_modes(chance, 12, "ab") + uneven_modes(chance, 6, "abc") + [standard()] * 6
        seen = {"stuck": 0, "all": 0, "granted": 0, "way": 0, "none": 0, "uneven": 0}
        for _ in range(400):
            some = chance.choice(modes)
            system, instances = self.draw(chance, some)
            plain = Followed(system, instances)
            self.assertEqual(len(States(Plan(system, instances)).states), len(plain.rows()))
            stuck = plain.least_stuck(1)
            whole = plain.least_stuck(len(instances))
            self.assertEqual(least_schedule(system, instances), stuck)
            self.assertEqual(least_schedule(system, tuple(instances), all_of=True), whole)
            self.assertEqual(outcomes(system, instances), plain.outcomes())
            sizes = [len(system[2][index][3]) + 1 for index, _ in instances]
            tried = [sizes] + [[chance.randint(0, size) for size in sizes] for _ in range(4)]
            for turns in tried + [list(chance.choice(sorted(plain.calm)))]:
                way, ahead = plain.ways(turns)
                self.assertEqual(way_to(system, instances, turns), way)
                self.assertEqual(least_ahead(system, instances, tuple(turns)), ahead)
                seen["way" if way else "none"] += 1
            seen["stuck"] += stuck is not None
            seen["all"] += whole is not None
            seen["granted"] += plain.granted > 0
            seen["uneven"] += any((n, m) not in some[1] for m, n in some[1])
        self.assertGreater(min(seen.values()), 15, seen)

    def test_rows_of_three_that_wait(self):
        # Four instances at one item: three of them wait in a row, as conversions or in the queue, in each order.
        chance = random.Random(42)
        waits = 0
        for _ in range(60):
            modes = chance.choice([standard(), TWO] + uneven_modes(chance, 2, "abc"))
            templates = []
            for name in ("one", "two", "three"):
                steps = any_early_steps(chance, ["f"], modes, chance.choice([1, 1, 2, 2, 3]), 0.2)
                templates.append((name, (), (), steps))
            system = (modes, ("f",), tuple(templates))
            instances = [(chance.randrange(3), ()) for _ in range(4)]
            plain = Followed(system, instances)
            self.assertEqual(len(States(Plan(system, instances)).states), len(plain.rows()))
            for all_of in (False, True):
                stuck = plain.least_stuck(4 if all_of else 1)
                self.assertEqual(least_schedule(system, instances, all_of=all_of), stuck)
            self.assertEqual(outcomes(system, instances), plain.outcomes())
            sizes = [len(system[2][index][3]) + 1 for index, _ in instances]
            way, ahead = plain.ways(sizes)
            self.assertEqual([way_to(system, instances, sizes), least_ahead(system, instances, sizes)], [way, ahead])
            waits += any(len(part) > 2 for run, _, _ in plain.rows() for part in run.table.at("f"))
        self.assertGreater(waits, 25)

    def test_more_than_two_thousand_states(self):
        # Instances that never meet have as many states as there are numbers of turns done.
        steps = tuple(("lock", param, "x") for param in "pqrs")
        one = ("one", tuple((param, "t") for param in "pqrs"), (), steps)
        long = ("long", tuple((param, "t") for param in "pqrs"), (), steps + steps[:3])
        system = (standard(), (), (one, long))
        keys = [tuple(range(4 * k, 4 * k + 4)) for k in range(4)]
        few = [(0, row) for row in keys]
        # 6 ** 4 are 1296 states, 6 ** 3 * 9 are 1944, and 6 ** 2 * 9 ** 2 are too many.
        for instances in (few, few[:3] + [(1, keys[3])]):
            self.assertEqual([least_schedule(system, instances), outcomes(system, instances)[1]], [None, 0])
        large = few[:2] + [(1, keys[2]), (1, keys[3])]
        for call in (
            lambda: least_schedule(system, large), lambda: outcomes(system, large),
            lambda: way_to(system, large, (0, 0, 0, 0)), lambda: least_ahead(system, large, (0, 0, 0, 0)),
        ):
            with self.assertRaises(TooLarge) as caught:
                call()
            self.assertEqual(caught.exception.limit, 2000)
        self.assertEqual(play(system, large, [0] * 5)[0], (5, "ended", []))


if __name__ == "__main__":
    unittest.main()
