"""Lock tables that are followed step by step by the plain telling of the rules."""

import random
import unittest
from itertools import product

from chance import ALL_MODES, NAMES
from lockplay import PlainTable
from samples import ONE_WAY
from stuckrows.errors import NotHeld, Waiting
from stuckrows.locks import LockTable
from stuckrows.modes import check_modes, standard

ITEMS = ("a", ("t", 1), ("t", 2))


def one_way_modes():
    """All exact modes with two names that are not symmetric."""
    found = []
    for flags in product((False, True), repeat=4):
        allowed = tuple(pair for pair, flag in zip(product(NAMES[:2], repeat=2), flags) if flag)
        for join in NAMES[:2]:
            modes = (NAMES[:2], allowed, (NAMES[:2] + (join,),))
            if check_modes(modes) is None and (("a", "b") in allowed) != (("b", "a") in allowed):
                found.append(modes)
    return found


ONE_WAYS = one_way_modes()


class Followed(unittest.TestCase):

    def compare(self, table, plain, owners):
        for owner in owners:
            self.assertEqual(table.holds_of(owner), [row[1:] for row in plain.holds if row[0] == owner])
            asks = [row[1:] for row in plain.waiting if row[0] == owner]
            self.assertEqual(table.ask_of(owner), asks[0] if asks else None)
            self.assertEqual(table.waits_for(owner), sorted(plain.waits_for(owner)))
        for item in ITEMS:
            self.assertEqual(table.holders_at(item), sorted((row[0], row[2]) for row in plain.holds if row[1] == item))
            conversions, queue = plain.at(item)
            self.assertEqual(table.waiters_at(item), [(row[0], row[2]) for row in conversions + queue])
        self.assertEqual(table.stuck_owners(), sorted(plain.stuck()))

    def step(self, chance, table, plain, owners, modes):
        """One thing that both do: the same answers, or the error that the document tells."""
        owner, item, word = chance.choice(owners), chance.choice(ITEMS), chance.random()
        if word < 0.75:
            mode = chance.choice(modes[0])
            if plain.waits(owner):
                self.assertRaises(Waiting, table.ask, owner, item, mode)
            else:
                self.assertIs(table.ask(owner, item, mode), plain.ask(owner, item, mode))
        elif word < 0.92:
            if plain.waits(owner):
                self.assertRaises(Waiting, table.let_go, owner, item)
            elif plain.mode(owner, item) is None:
                self.assertRaises(NotHeld, table.let_go, owner, item)
            else:
                self.assertEqual(table.let_go(owner, item), plain.free(owner, item))
        else:
            self.assertEqual(table.finish(owner), plain.end(owner))
            return owner
        return None

    def follow(self, chance, modes, owners, steps):
        table, plain = LockTable(modes), PlainTable(modes)
        before = set()
        for _ in range(steps):
            if chance.random() < 0.1:
                table = table.copied()
            ended = self.step(chance, table, plain, owners, modes)
            self.compare(table, plain, owners)
            stuck = set(table.stuck_owners())
            # Who is stuck stays stuck whatever others do, and ending owners makes nobody stuck.
            if ended not in before:
                self.assertLessEqual(before, stuck)
            if ended is not None:
                self.assertLessEqual(stuck, before)
            before = stuck
        return table, plain

    def test_small_tables(self):
        chance = random.Random(11)
        for _ in range(150):
            modes = chance.choice(ALL_MODES + ONE_WAYS * 3 + [standard(), ONE_WAY] * 5)
            self.follow(chance, modes, list(range(chance.randint(2, 5))), 30)

    def crowded(self, chance, modes, owners):
        """A table in which each owner first takes an item of its own, then all ask for several."""
        table, plain = LockTable(modes), PlainTable(modes)
        items = [("own", owner) for owner in owners] + list(ITEMS)
        rows = [(owner, ("own", owner), chance.choice(modes[0])) for owner in owners]
        rows += [(chance.choice(owners), chance.choice(items), chance.choice(modes[0])) for _ in range(24)]
        for owner, item, mode in rows:
            if not plain.waits(owner):
                self.assertIs(table.ask(owner, item, mode), plain.ask(owner, item, mode))
        self.compare(table, plain, owners)
        return table, plain

    def test_rings_and_victims(self):
        chance = random.Random(12)
        seen = set()
        for _ in range(150):
            modes = chance.choice(ONE_WAYS + [standard()] * 8 + [modes for modes in ALL_MODES if len(modes[0]) == 2])
            owners = sorted(chance.sample(range(20), chance.randint(2, 6)))
            table, plain = self.crowded(chance, modes, owners)
            ring = plain.ring()
            self.assertEqual(table.waiting_ring(), ring)
            self.every_stuck_owner_leads_to_a_ring(table, ring)
            if len(owners) < 6:
                prices = {owner: chance.randint(0, 3) for owner in owners}
                victims = table.least_victims(prices)
                self.assertEqual(victims, plain.victims({owner: prices[owner] for owner in table.stuck_owners()}))
                # Others may be ended for nothing, but that does not help.
                self.assertEqual(sum(prices[owner] for owner in victims), plain.cheapest(prices))
                seen.add((len(ring or []), len(table.stuck_owners()), len(victims)))
        self.assertGreater(len(seen), 10)

    def test_tables_in_which_many_are_stuck(self):
        chance = random.Random(13)
        for count in (6, 7, 6, 7, 6, 7, 6, 7):
            table, plain = self.follow(chance, chance.choice([standard(), ONE_WAY]), list(range(count)), 60)
            self.assertEqual(table.waiting_ring(), plain.ring())
            if len(table.stuck_owners()) <= 5:
                prices = {owner: chance.randint(0, 3) for owner in table.stuck_owners()}
                self.assertEqual(table.least_victims(prices), plain.victims(prices))

    def every_stuck_owner_leads_to_a_ring(self, table, ring):
        stuck = table.stuck_owners()
        self.assertEqual(ring is None, stuck == [])
        for owner in stuck:
            reached = [owner]
            for one in reached:
                reached.extend(other for other in table.waits_for(one) if other not in reached)
            # Somebody on the way is reached again from where it stands.
            self.assertTrue(any(self.leads_back(table, one) for one in reached))

    def leads_back(self, table, owner):
        reached = table.waits_for(owner)
        for one in reached:
            reached.extend(other for other in table.waits_for(one) if other not in reached)
        return owner in reached


if __name__ == "__main__":
    unittest.main()
