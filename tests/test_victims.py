"""least_victims, compared with the ends of all sets of stuck owners in copies of the lock table."""

import random
import unittest
from itertools import combinations

from samples import TWO
from stuckrows.errors import InvalidPrices, TooLarge
from stuckrows.locks import LockTable
from stuckrows.modes import standard

GREAT = 10 ** 60


def in_rings(sizes):
    """A table in which rings of so many owners wait, each owner for the next one of its ring."""
    table = LockTable(TWO)
    first = 0
    for size in sizes:
        for owner in range(size):
            table.ask(first + owner, ("t", first + owner), "x")
        for owner in range(size):
            table.ask(first + owner, ("t", first + (owner + 1) % size), "x")
        first += size
    return table


def any_table(chance, owners, items, modes):
    """A table in which owners hold some items and then ask for others, until nobody asks any more."""
    table = LockTable(modes)
    names = ["abcdefghij"[place] for place in range(items)]
    for _ in range(4 * owners):
        owner = chance.randrange(owners)
        if table.ask_of(owner) is None:
            table.ask(owner, chance.choice(names), chance.choice(modes[0]))
    return table


def plain_victims(table, prices):
    """The least of all sets of stuck owners behind whose ends nobody is stuck."""
    stuck = table.stuck_owners()
    best = None
    for count in range(len(stuck) + 1):
        for some in combinations(stuck, count):
            told = (sum(prices[owner] for owner in some), count, list(some))
            if best is None or told < best:
                other = table.copied()
                for owner in some:
                    other.finish(owner)
                if not other.stuck_owners():
                    best = told
    return best[2]


def any_prices(chance, owners):
    """Prices of one of several kinds."""
    kind = chance.choice([[1], [0], [0, 1], [1, 2, 3], [5, 5, 6], [0, GREAT, GREAT + 1], list(range(20))])
    return {owner: chance.choice(kind) for owner in owners}


class Victims(unittest.TestCase):

    def compare(self, chance, table, many=3):
        stuck = table.stuck_owners()
        for _ in range(many):
            prices = any_prices(chance, stuck)
            before = dict(prices)
            self.assertEqual(table.least_victims(prices), plain_victims(table, prices))
            # Prices of others do not matter.
            prices[max(stuck) + 1] = -1
            prices["other"] = None
            self.assertEqual(table.least_victims(prices), plain_victims(table, before))
            self.assertEqual(table.stuck_owners(), stuck)

    def test_rings_apart(self):
        chance = random.Random(161)
        for sizes in ([2], [3], [5], [9], [2, 2], [2, 3], [3, 2, 2], [4, 4], [2, 2, 2, 2], [3, 3, 3], [5, 4], [7, 2]):
            self.compare(chance, in_rings(sizes), 4)

    def test_the_inputs_that_took_longest(self):
        for sizes, expected in (
            ([2] * 6, [0, 2, 4, 6, 8, 10]), ([4] * 3, [0, 4, 8]), ([6, 6], [0, 6]), ([12], [0]), ([2] * 5, [0, 2, 4, 6, 8]),
        ):
            table = in_rings(sizes)
            count = sum(sizes)
            self.assertEqual(table.least_victims({owner: 1 for owner in range(count)}), expected)
            # The dearest are spared.
            prices = {owner: count - owner for owner in range(count)}
            ends = [sum(sizes[:place + 1]) - 1 for place in range(len(sizes))]
            self.assertEqual(table.least_victims(prices), ends)

    def test_twelve_that_all_wait_for_one_another(self):
        table = LockTable(TWO)
        for owner in range(12):
            table.ask(owner, "a", "s")
        for owner in range(12):
            table.ask(owner, "a", "x")
        self.assertEqual(len(table.stuck_owners()), 12)
        self.assertEqual(table.least_victims({owner: 1 for owner in range(12)}), list(range(11)))
        prices = {owner: 1 for owner in range(12)}
        prices[4] = 2
        self.assertEqual(table.least_victims(prices), [owner for owner in range(12) if owner != 4])
        self.assertEqual(table.least_victims({owner: 0 for owner in range(12)}), list(range(11)))
        with self.assertRaises(TooLarge) as caught:
            in_rings([7, 6]).least_victims({owner: 1 for owner in range(13)})
        self.assertEqual(caught.exception.limit, 12)
        for prices in ({owner: 1 for owner in range(11)}, {**prices, 3: -1}, {**prices, 3: True}, {}):
            with self.assertRaises(InvalidPrices):
                table.least_victims(prices)

    def test_rings_that_share_owners(self):
        chance = random.Random(162)
        seen = {}
        for _ in range(900):
            modes = chance.choice([TWO, TWO, standard()])
            table = any_table(chance, chance.randint(2, 11), chance.randint(1, 6), modes)
            count = len(table.stuck_owners())
            if 2 <= count <= 9 and seen.get(count, 0) < 14:
                self.compare(chance, table, 2)
                seen[count] = seen.get(count, 0) + 1
        self.assertEqual(sorted(seen), list(range(2, 10)))
        self.assertGreater(min(seen.values()), 4, seen)


if __name__ == "__main__":
    unittest.main()
