import random
import unittest
from itertools import combinations

from brute import Plain
from cases import NO_RINGS, Case
from chance import any_system
from samples import DOWN, LOOSE, ODD, READ_WRITE, TWO, UP, greatest_system, nested, system_of
from stuckrows.companies import company_ring, least_companies, least_removal, safe_companies
from stuckrows.errors import InvalidNumber, InvalidPrices
from stuckrows.remedies import touched
from stuckrows.rings import can_be_stuck, fewest, shows_ring
from test_limits import cycle

LOOK = ("look", (("w", "acc"),), (), (("lock", "w", "s"),))
EXAMPLE = system_of(UP, LOOK, DOWN)


class PlainCompanies:
    """Which companies can be stuck, each of them looked at as a system of its own."""

    def __init__(self, system):
        size = len(system[2])
        self.all = [some for count in range(size + 1) for some in combinations(range(size), count)]
        self.stuck = {some: bool(some) and can_be_stuck(self.alone(system, some)) for some in self.all}
        self.size = size

    def alone(self, system, some):
        return (system[0], system[1], tuple(system[2][index] for index in some))

    def least(self):
        return [
            some for some in self.all
            if self.stuck[some] and not any(self.stuck[other] for other in self.all if set(other) < set(some))]

    def safe(self):
        found = []
        for some in self.all:
            more = [tuple(sorted(some + (index,))) for index in range(self.size) if index not in some]
            if not self.stuck[some] and all(self.stuck[other] for other in more):
                found.append(some)
        return sorted(found, key=lambda some: (-len(some), some))

    def removal(self, prices):
        rows = []
        for some in self.all:
            if not self.stuck[tuple(index for index in range(self.size) if index not in some)]:
                rows.append((sum(prices[index] for index in some), len(some), some))
        return min(rows)[2]


class Examples(Case):

    def test_examples(self):
        self.assertEqual([least_companies(EXAMPLE), safe_companies(EXAMPLE)], [[(0, 2)], [(0, 1), (1, 2)]])
        self.assertEqual(least_removal(EXAMPLE, [3, 1, 2]), (2,))
        self.assertEqual(len(company_ring(EXAMPLE, (0, 2))), 2)
        self.assertEqual([company_ring(EXAMPLE, (0, 1)), company_ring(EXAMPLE, ())], [None, None])

    def test_members_have_their_indexes_in_the_system(self):
        system = system_of(LOOK, UP, READ_WRITE, DOWN)
        self.assertEqual(sorted(member[0] for member in company_ring(system, (0, 1, 3))), [1, 3])
        self.assertEqual([member[0] for member in company_ring(system, (2,))], [2, 2])
        self.assertIs(shows_ring(system, company_ring(system, (1, 3))), True)

    def test_nothing_can_be_stuck(self):
        for system in (system_of(UP), system_of(UP, LOOK), greatest_system()):
            size = len(system[2])
            whole = tuple(range(size))
            self.assertEqual([least_companies(system), safe_companies(system), least_removal(system, [0] * size)], [[], [whole], ()])
            self.assertIsNone(company_ring(system, whole))

    def test_each_template_alone_can_be_stuck(self):
        system = system_of(READ_WRITE, LOOSE)
        self.assertEqual([least_companies(system), safe_companies(system)], [[(0,), (1,)], [()]])
        self.assertEqual(least_removal(system, (0, 0)), (0, 1))

    def test_long_rings(self):
        for size in range(2, 7):
            system = cycle(size)
            whole = tuple(range(size))
            self.assertEqual(least_companies(system), [whole])
            self.assertEqual(safe_companies(system), list(combinations(whole, size - 1)))
            self.assertEqual(len(company_ring(system, whole)), size)
            self.assertEqual(least_removal(system, [1] * size), (0,))
            self.assertEqual(least_removal(system, list(range(size, 0, -1))), (size - 1,))

    def test_prices(self):
        system = system_of(UP, DOWN, LOOSE, READ_WRITE)
        self.assertEqual(least_companies(system), [(2,), (3,), (0, 1)])
        for prices, removed in (
            ([0] * 4, (0, 2, 3)), ([1] * 4, (0, 2, 3)), ([2, 1, 5, 5], (1, 2, 3)), ([10 ** 100, 10 ** 99, 1, 1], (1, 2, 3)), ([1, 1, 0, 0], (0, 2, 3)),
        ):
            self.assertEqual([least_removal(system, prices), least_removal(system, tuple(prices))], [removed] * 2)

    def test_the_order_of_companies(self):
        system = system_of(UP, DOWN, ("upb",) + UP[1:], ("downb",) + DOWN[1:], READ_WRITE)
        self.assertEqual(least_companies(system), [(4,), (0, 1), (0, 3), (1, 2), (2, 3)])
        self.assertEqual(safe_companies(system), [(0, 2), (1, 3)])
        more = system_of(UP, DOWN, ("upb",) + UP[1:], ("lookb",) + LOOK[1:], LOOK)
        self.assertEqual(safe_companies(more), [(0, 2, 3, 4), (1, 3, 4)])

    def test_each_answer_is_always_the_same_and_new(self):
        self.same_by_keyword(company_ring, system=EXAMPLE, company=(0, 1, 2))
        for function in (least_companies, safe_companies):
            self.same_by_keyword(function, system=EXAMPLE)
        self.same_by_keyword(least_removal, system=EXAMPLE, prices=[1, 2, 3])


class Drawn(Case):

    def test_all_sets_of_templates(self):
        chance = random.Random(141)
        seen = {}
        for _ in range(250):
            system = any_system(chance, 5, 2, (2, 4, 2))
            size = len(system[2])
            plain = PlainCompanies(system)
            least = least_companies(system)
            self.assertEqual(least, plain.least())
            self.assertEqual(safe_companies(system), plain.safe())
            self.assertEqual([one[0] for one in least if len(one) == 1], touched(system))
            for some in plain.all:
                ring = company_ring(system, some)
                self.assertEqual(ring is not None, plain.stuck[some])
                self.assertEqual(plain.stuck[some], any(set(one) <= set(some) for one in least))
                if ring is not None:
                    self.assertTrue({member[0] for member in ring} <= set(some))
                    self.assertEqual(len(ring), fewest(plain.alone(system, some)))
                    self.assertTrue(Plain(system).is_ring(ring))
            for prices in ([1] * size, [chance.randint(0, 3) for _ in range(size)]):
                removed = least_removal(system, prices)
                self.assertEqual(removed, plain.removal(prices))
                self.assertTrue(all(set(one) & set(removed) for one in least))
            for one in least:
                seen[len(one)] = seen.get(len(one), 0) + 1
        self.assertGreater(min(seen.get(count, 0) for count in (1, 2)), 20, seen)


class Errors(Case):

    def test_systems(self):
        calls = [
            lambda system: company_ring(system, 5), least_companies, safe_companies,
            lambda system: least_removal(prices=5, system=system),
        ]
        self.tells_no_system(calls)
        self.tells_no_rings([least_companies, safe_companies] + [
            lambda system: company_ring(system, ()), lambda system: least_removal(system, [0] * len(system[2])),
        ])

    def test_companies(self):
        for system in (EXAMPLE, (NO_RINGS[0][0], (), (UP, DOWN, LOOSE))):
            wrong = [value for value in ODD if value != ()] + [[0, 1], (1, 0), (0, 0), (3,), (-1,), (0, 3), (True,), (0, None), {0: 1}, nested(tuple, 100000)]
            wrong += [(0, value) for value in ODD] + [(value,) for value in ODD]
            for value in wrong:
                self.raises(InvalidNumber, {"name": "company"}, company_ring, system, value)
                self.raises(InvalidNumber, {"name": "company"}, company_ring, company=value, system=system)

    def test_prices_of_templates(self):
        for system in (EXAMPLE, (NO_RINGS[0][0], (), (UP, DOWN, LOOSE))):
            wrong = ODD + [[1, 1], [1] * 4, [1, 1, -1], [1, 1, True], [1, 1, None], {0: 1, 1: 1, 2: 1}, "abc", range(3), nested(list, 100000)]
            wrong += [[1, 1, value] for value in ODD if value not in (99, 10 ** 5000)]
            for value in wrong:
                self.raises(InvalidPrices, {"name": "prices"}, least_removal, system, value)
        self.assertEqual(least_removal((TWO, (), (READ_WRITE,)), [10 ** 5000]), (0,))


if __name__ == "__main__":
    unittest.main()
