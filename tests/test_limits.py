import random
import unittest

from brute import Plain
from cases import NO_RINGS, Case
from chance import any_system
from samples import (
    DOWN, LOOSE, ODD, ONLY_S, ONLY_X, READ_WRITE, TWO, UP, greatest_system, nested, system_of,
)
from stuckrows.errors import InvalidLimits, InvalidNumber, Mismatch
from stuckrows.limits import can_be_stuck_within, fewest_of, least_counts, ring_within, safe_limits
from stuckrows.modes import standard
from stuckrows.rings import can_be_stuck, fewest, shows_ring

READERS = system_of(READ_WRITE)
THREE = system_of(UP, DOWN, LOOSE)
FAR = 10 ** 500


def counts_of(system, ring):
    return tuple(sum(member[0] == index for member in ring) for index in range(len(system[2])))


def is_within(counts, limits):
    return all(limit is None or count <= limit for count, limit in zip(counts, limits))


def cycle(size, modes=ONLY_X):
    """Each template holds a row of one table and asks for one of the next table."""
    names = "abcdef"[:size]
    templates = []
    for index, name in enumerate(names):
        params = (("p", "t" + name), ("q", "t" + names[(index + 1) % size]))
        templates.append((name, params, (), (("lock", "p", "x"), ("lock", "q", "x"))))
    return (modes, (), tuple(templates))


class Facts(Case):

    def test_two_readers_that_both_want_to_write(self):
        self.assertEqual([least_counts(READERS), safe_limits(READERS), fewest_of(READERS, 0)], [[(2,)], [(1,)], 2])
        self.assertEqual([can_be_stuck_within(READERS, [count]) for count in (0, 1, 2, 3, FAR, None)], [False] * 2 + [True] * 4)
        self.assertEqual(len(ring_within(READERS, (2,))), 2)
        self.assertIsNone(ring_within(READERS, (1,)))

    def test_nothing_can_be_stuck(self):
        only = (ONLY_S, ("f",), (("a", (), (), (("lock", "f", "s"),)),))
        for system in (system_of(UP), system_of(UP, ("other",) + UP[1:]), only):
            size = len(system[2])
            self.assertEqual([least_counts(system), safe_limits(system)], [[], [(None,) * size]])
            self.assertEqual([fewest_of(system, index) for index in range(size)], [None] * size)
            self.assertIs(can_be_stuck_within(system, (None,) * size), False)
            self.assertIsNone(ring_within(system, [FAR] * size))

    def test_three_templates(self):
        self.assertEqual(least_counts(THREE), [(0, 0, 2), (0, 1, 1), (1, 0, 1), (1, 1, 0)])
        self.assertEqual(safe_limits(THREE), [(0, 0, 1), (0, None, 0), (None, 0, 0)])
        self.assertEqual([fewest_of(THREE, index) for index in range(3)], [0, 0, 0])
        self.assertEqual([fewest_of(system_of(UP, DOWN), index) for index in range(2)], [1, 1])
        self.assertEqual(safe_limits(system_of(UP, DOWN)), [(0, None), (None, 0)])

    def test_long_rings(self):
        for size in range(2, 7):
            system = cycle(size)
            self.assertEqual(least_counts(system), [(1,) * size])
            self.assertEqual(len(ring_within(system, [1] * size)), size)
            self.assertIs(can_be_stuck_within(system, [1] * (size - 1) + [0]), False)
            # None is greater than each integer.
            safe = [tuple(0 if place == index else None for place in range(size)) for index in range(size)]
            self.assertEqual(safe_limits(system), safe)

    def test_within_limits_a_shortest_ring_may_be_longer(self):
        modes, _, templates = cycle(3, TWO)
        system = (modes, (), (READ_WRITE,) + templates)
        self.assertEqual(least_counts(system), [(0, 1, 1, 1), (2, 0, 0, 0)])
        self.assertEqual([len(ring_within(system, [most, None, 1, FAR])) for most in (0, 1, 2, 3, None)], [3, 3, 2, 2, 2])
        self.assertIsNone(ring_within(system, [1, None, None, 0]))

    def test_a_ring_needs_several_of_one_template(self):
        # Keys ascend in one template; the other one only takes unlike ones.
        loose = ("loose", (("p", "t"), ("q", "u")), (), (("lock", "p", "x"), ("lock", "q", "x")))
        back = ("back", (("q", "u"), ("p", "t")), (), (("lock", "q", "x"), ("lock", "p", "x")))
        self.assertEqual(least_counts((ONLY_X, (), (loose, back))), [(1, 1)])
        # s allows u, and u allows s, but u does not allow u: a ring of upgrades needs all of them.
        plain = ("plain", (("p", "t"),), (), (("lock", "p", "is"), ("lock", "p", "ix"), ("lock", "p", "x")))
        self.assertEqual(least_counts((standard(), (), (plain,))), [(2,)])

    def test_the_order_of_safe_limits(self):
        both = system_of(READ_WRITE, ("other",) + READ_WRITE[1:], ("third",) + READ_WRITE[1:])
        self.assertEqual(safe_limits(both), [(0, 0, 1), (0, 1, 0), (1, 0, 0)])
        system = system_of(READ_WRITE, UP, DOWN)
        for one, other in zip(safe_limits(system), safe_limits(system)[1:]):
            self.assertLess([(limit is None, limit or 0) for limit in one], [(limit is None, limit or 0) for limit in other])

    def test_the_greatest_system(self):
        system = greatest_system()
        self.assertEqual([least_counts(system), safe_limits(system)], [[], [(None,) * 6]])
        self.assertIsNone(ring_within(system, [None, 0, 1, 2, FAR, FAR]))

    def test_each_answer_is_always_the_same_and_new(self):
        for limits in ([1, 2, None], [0, FAR, 1], [None] * 3):
            ring = self.same_by_keyword(ring_within, system=THREE, limits=limits)
            self.assertEqual(ring, ring_within(THREE, tuple(limits)))
            self.same_by_keyword(can_be_stuck_within, system=THREE, limits=limits)
        self.same_by_keyword(least_counts, system=THREE)
        self.same_by_keyword(safe_limits, system=THREE)
        self.same_by_keyword(fewest_of, system=THREE, template=1)
        for entry in least_counts(THREE) + safe_limits(THREE):
            self.assertIs(type(entry), tuple)


class Drawn(Case):

    def test_counts_and_all_rings_of_three_members(self):
        chance = random.Random(71)
        seen = {}
        for _ in range(900):
            system = any_system(chance, 3, 2, (2, 5, 2))
            least = least_counts(system)
            plain = Plain(system)
            known = plain.all_counts(3, range(3))
            for counts in known:
                self.assertTrue(any(is_within(one, counts) for one in least))
            for counts in least:
                self.assertFalse(any(other != counts and is_within(other, counts) for other in least))
                ring = ring_within(system, counts)
                self.assertEqual(counts_of(system, ring), counts)
                self.assertTrue(plain.is_ring(ring))
                self.assertGreater(sum(counts), 1)
                if sum(counts) == 2:
                    self.assertIn(counts, known)
                seen[sum(counts)] = seen.get(sum(counts), 0) + 1
            self.assertEqual(least, sorted(least))
            self.assertEqual(min([sum(counts) for counts in least], default=None), fewest(system))
            self.told_by_least(chance, system, least)
        self.assertGreater(seen[3], 4, seen)
        self.assertGreater(seen[2], 100)

    def told_by_least(self, chance, system, least):
        size = len(system[2])
        safe = safe_limits(system)
        self.assertEqual(len(set(safe)), len(safe))
        self.assertEqual(safe, sorted(safe, key=lambda limits: [(limit is None, limit or 0) for limit in limits]))
        for index in range(size):
            self.assertEqual(fewest_of(system, index), min([counts[index] for counts in least], default=None))
        for _ in range(6):
            limits = [chance.choice([0, 1, 1, 2, 3, None, FAR]) for _ in range(size)]
            stuck = any(is_within(counts, limits) for counts in least)
            self.assertIs(can_be_stuck_within(system, limits), stuck)
            beside = any(all(up is None or low is not None and low <= up for low, up in zip(limits, one)) for one in safe)
            self.assertIs(beside, not stuck)
            ring = ring_within(system, tuple(limits))
            self.assertEqual(ring is not None, stuck)
            if stuck:
                self.assertTrue(shows_ring(system, ring) and is_within(counts_of(system, ring), limits))
        for limits in safe:
            self.assertIs(can_be_stuck_within(system, limits), False)
            for index, limit in enumerate(limits):
                if limit is not None:
                    self.assertIs(can_be_stuck_within(system, limits[:index] + (limit + 1,) + limits[index + 1:]), True)
        self.assertIs(can_be_stuck_within(system, [None] * size), can_be_stuck(system))

    def test_shortest_within_limits(self):
        chance = random.Random(72)
        for _ in range(250):
            system = any_system(chance, 2, 1, (2, 5, 2))
            plain = Plain(system)
            counts = plain.all_counts(4, range(3))
            for limits in ((1, 2), (2, 1), (1, 1), (0, 3), (None, 1))[:5 if len(system[2]) > 1 else 0]:
                ring = ring_within(system, limits)
                sizes = [sum(one) for one in counts if is_within(one, limits)]
                if sizes:
                    self.assertLessEqual(len(ring), min(sizes))
                if ring is not None and len(ring) < 4:
                    self.assertTrue(plain.is_ring(ring))


class Errors(Case):

    def test_systems(self):
        calls = [
            lambda system: can_be_stuck_within(system, 5), lambda system: ring_within(limits=5, system=system),
            lambda system: fewest_of(system, -1), least_counts, safe_limits,
        ]
        self.tells_no_system(calls)
        self.tells_no_rings(calls[3:] + [
            lambda system: can_be_stuck_within(system, (0,) * len(system[2])),
            lambda system: ring_within(system, [None] * len(system[2])), lambda system: fewest_of(system, 0),
        ])

    def test_limits(self):
        for function in (can_be_stuck_within, ring_within):
            for system in (system_of(UP, DOWN), NO_RINGS[1]):
                for limits in ODD + [(), [1], (1, 2, 3), {0: 1, 1: 1}, "ab", b"ab", range(2), nested(list, 100000)]:
                    self.raises(InvalidLimits, {"index": -1}, function, system, limits)
                for value in [value for value in ODD if value is not None and value not in (99, 10 ** 5000)]:
                    self.raises(InvalidLimits, {"index": 0}, function, system, [value, value])
                    self.raises(InvalidLimits, {"index": 1}, function, limits=(None, value), system=system)
            for system in NO_RINGS:
                self.raises(Mismatch, {"name": "system"}, function, system, [1] * len(system[2]))

    def test_templates(self):
        for system in (system_of(UP, DOWN), NO_RINGS[1]):
            for value in ODD + [2, -1]:
                self.raises(InvalidNumber, {"name": "template"}, fewest_of, system, value)


if __name__ == "__main__":
    unittest.main()
