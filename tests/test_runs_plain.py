"""Small runs that are followed step by step by the plain telling of the rules, and all schedules of a few instances."""

import random
import unittest

from chance import any_template
from lockplay import PlainRun, all_schedules, all_states
from samples import ONE_WAY, TWO
from stuckrows.errors import InvalidSchedule
from stuckrows.modes import standard
from stuckrows.runs import least_ahead, least_schedule, outcomes, play, stuck_behind, way_to


def free_fixed(chance, steps, fixed):
    """The steps, with a free step for some fixed items behind the last lock step of each."""
    steps = list(steps)
    for item in fixed:
        places = [place for place, step in enumerate(steps) if step[1] == item]
        if places and chance.random() < 0.5:
            steps.insert(chance.randint(places[-1] + 1, len(steps)), ("free", item))
    return tuple(steps)


def any_run(chance, most, sizes):
    """A system, also one of which rings do not speak, and some instances with few keys."""
    modes = chance.choice([standard(), standard(), TWO, ONE_WAY])
    fixed = ("f", "g")[:chance.choice([0, 1, 1, 2])]
    templates = []
    while len(templates) < 2:
        template = any_template(chance, "ab"[len(templates)], modes, fixed, sizes)
        if template[3]:
            templates.append(template[:3] + (free_fixed(chance, template[3], fixed),))
    instances = []
    while len(instances) < most:
        index = chance.randint(0, 1)
        _, params, orders, _ = templates[index]
        keys = [chance.randint(0, 1) for _ in params]
        key_of = {param: key for (param, _), key in zip(params, keys)}
        rows = {(table, key) for (_, table), key in zip(params, keys)}
        if len(rows) == len(params) and all(key_of[low] < key_of[high] for low, high in orders):
            instances.append((index, tuple(keys)))
        elif chance.random() < 0.1:
            return any_run(chance, most, sizes)
    return (modes, fixed, tuple(templates)), instances


def told(run):
    """What play tells of a run."""
    rows = []
    for index, done in enumerate(run.done):
        word = "waits" if run.table.waits(index) else "ended" if run.ended(index) else "ready"
        rows.append((done, word, sorted(run.table.waits_for(index))))
    return rows


class Followed(unittest.TestCase):

    def test_step_by_step(self):
        chance = random.Random(21)
        words = set()
        for _ in range(150):
            system, instances = any_run(chance, chance.randint(1, 6), (3, 5, 2))
            run, schedule = PlainRun(system, instances), []
            while run.with_turn():
                index = chance.choice(run.with_turn())
                schedule.append(index)
                run.turn(index)
                self.assertEqual(play(system, instances, schedule), told(run))
                self.assertEqual(stuck_behind(system, instances, tuple(schedule)), sorted(run.table.stuck()))
                self.no_turn(run, system, instances, schedule)
            words.add((len(instances), len(run.table.stuck())))
        self.assertGreater(len(words), 12)

    def no_turn(self, run, system, instances, schedule):
        for index in range(len(instances)):
            if index not in run.with_turn():
                with self.assertRaises(InvalidSchedule) as caught:
                    play(system, instances, schedule + [index, 99])
                self.assertEqual(caught.exception.index, len(schedule))


class AllSchedules(unittest.TestCase):

    def compare(self, system, instances):
        """Compares all functions that look at all schedules; returns what kinds of answers there were."""
        found = all_schedules(system, instances)
        count = len(instances)
        for all_of in (False, True):
            wanted = [list(turns) for turns, run in found if len(run.table.stuck()) >= (count if all_of else 1)]
            answer = least_schedule(system, instances, all_of=all_of)
            self.assertEqual(answer, wanted[0] if wanted else None)
        ends = [run for _, run in found if not run.with_turn()]
        whole = [run for run in ends if all(run.ended(index) for index in range(count))]
        self.assertEqual(outcomes(system, instances), (len(whole), len(ends) - len(whole)))
        for run in ends:
            # All that have not ended then are stuck.
            self.assertEqual(run.table.stuck(), {index for index in range(count) if not run.ended(index)})
        return (bool(wanted), len(ends) > len(whole))

    def compare_ways(self, chance, system, instances):
        ways = {}
        for schedule, run in all_schedules(system, instances, calm=True):
            ways.setdefault(tuple(run.done), []).append(schedule)
        # If a schedule leads to turns with nobody waiting behind it, there is also one in which nobody ever waits.
        led = {tuple(run.done) for run in all_states(system, instances) if not run.table.waiting}
        self.assertEqual(led, set(ways))
        sizes = [len(system[2][template][3]) + 1 for template, _ in instances]
        tried = sorted(ways) + [tuple(chance.randint(0, size) for size in sizes) for _ in range(6)]
        for turns in chance.sample(tried, min(12, len(tried))):
            some = ways.get(turns)
            self.assertEqual(way_to(system, instances, turns), list(min(some)) if some else None)
            self.assertEqual(least_ahead(system, instances, list(turns)), ahead(some, turns) if some else None)

    def test_all_schedules(self):
        chance = random.Random(22)
        kinds = set()
        for _ in range(60):
            system, instances = any_run(chance, chance.choice([1, 2, 2, 2]), (2, 4, 1))
            kinds.add(self.compare(system, instances))
            self.compare_ways(chance, system, instances)
        for _ in range(20):
            system, instances = any_run(chance, 3, (2, 2, 1))
            kinds.add(self.compare(system, instances))
            self.compare_ways(chance, system, instances)
        for _ in range(5):
            system, instances = any_run(chance, 4, (2, 1, 1))
            kinds.add(self.compare(system, instances))
        self.assertEqual(kinds, {(False, False), (False, True), (True, True)})


def ahead(ways, turns):
    """For each instance and each of its turns what the others have done at least directly before it."""
    rows = [[[] for _ in range(count)] for count in turns]
    for schedule in ways:
        done = [0] * len(turns)
        for index in schedule:
            rows[index][done[index]].append(tuple(done))
            done[index] += 1
    return [[tuple(min(column) for column in zip(*found)) for found in row] for row in rows]


if __name__ == "__main__":
    unittest.main()
