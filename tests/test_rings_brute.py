"""Small systems by chance: what rings tell, against all members, and against all schedules."""

import random
import unittest

import chance as made
from brute import Plain
from lockplay import behind, can_get_stuck
from stuckrows.rings import can_be_stuck, fewest, ring_schedule, shortest_ring, shows_ring


def tried(plain, ring):
    """So many members a ring is looked for with, and the keys that they have."""
    if ring is None:
        ring = range(99)
    for most, keys, many in ((4, 4, 60), (3, 3, 120), (2, 3, 400)):
        if len(plain.members(range(keys))) <= many:
            return min(most, len(ring)), range(keys)
    return 2, range(2)


class SmallSystems(unittest.TestCase):

    def compare(self, system):
        """Compares with all rings of few members and small keys; returns the number that was found."""
        ring = shortest_ring(system)
        count = None if ring is None else len(ring)
        self.assertEqual((fewest(system), can_be_stuck(system)), (count, ring is not None))
        plain = Plain(system)
        most, keys = tried(plain, ring)
        found = plain.fewest(most, keys)
        if count is not None:
            self.assertTrue(plain.is_ring(ring), system)
            self.assertIs(shows_ring(system, ring), True)
            instances, schedule = ring_schedule(system, ring)
            run = behind(system, instances, schedule)
            self.assertEqual(run.table.stuck(), set(range(count)))
            self.assertEqual(run.done, [step for _, step, _ in ring])
        if found is not None:
            self.assertIsNotNone(count, system)
            self.assertLessEqual(count, found, system)
        return (count, found)

    def test_all_rings_of_few_members(self):
        chance = random.Random(2026)
        told = {}
        for turn in range(9000):
            sizes = chance.choice([(2, 3, 1), (2, 4, 1), (2, 4, 2), (3, 4, 2), (1, 5, 1)])
            system = made.any_system(chance, chance.randint(1, 4), chance.randint(0, 3), sizes)
            # Longer rings are seldom: where there is one, the system is always looked at.
            if turn % 4 == 0 or (fewest(system) or 0) > 2:
                row = self.compare(system)
                told[row] = told.get(row, 0) + 1
        # The systems are of many kinds, and where there is a ring, it is nearly always found here, too.
        for count in (2, 3, 4):
            self.assertGreater(told[count, count], 10)
        self.assertGreater(told[None, None], 500)
        self.assertLess(sum(told[row] for row in told if row[0] != row[1]), 60)

    def test_shows_ring_on_many_lists_of_members(self):
        chance = random.Random(7)
        told = {True: 0, False: 0}
        for _ in range(300):
            system = made.any_system(chance, 3, 2, (2, 4, 1))
            plain = Plain(system)
            members = plain.members(range(3))
            ring = shortest_ring(system) or []
            for _ in range(40):
                some = list(ring) if chance.random() < 0.3 else []
                for _ in range(chance.randint(1, 3)):
                    if members:
                        some.insert(chance.randint(0, len(some)), chance.choice(members))
                wanted = plain.is_ring(some)
                self.assertIs(shows_ring(system, some), wanted)
                told[wanted] += 1
                if wanted:
                    instances, schedule = ring_schedule(system, some)
                    self.assertEqual(behind(system, instances, schedule).table.stuck(), set(range(len(some))))
        self.assertGreater(told[True], 50)
        self.assertGreater(told[False], 1000)

    def test_all_schedules(self):
        chance = random.Random(11)
        told = {True: 0, False: 0}
        for _ in range(500):
            system = made.any_system(chance, 2, 1, (2, 3, 1))
            templates = system[2]
            for _ in range(4):
                instances = []
                while len(instances) < 3:
                    template = chance.randrange(len(templates))
                    keys = tuple(chance.sample(range(3), len(templates[template][1])))
                    if Plain(system).keys_fit(template, keys):
                        instances.append((template, keys))
                stuck = can_get_stuck(system, instances)
                told[stuck] += 1
                if stuck:
                    self.assertIs(can_be_stuck(system), True, system)
                    self.assertLessEqual(fewest(system), 3)
        self.assertGreater(min(told.values()), 50)


if __name__ == "__main__":
    unittest.main()
