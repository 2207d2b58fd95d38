"""What one section of the document says of another one."""

import random
import unittest

from cases import Case
from chance import any_system
from samples import DOWN, LOOSE, READ_WRITE, UP, system_of
from stuckrows.companies import company_ring, least_companies, least_removal, safe_companies
from stuckrows.early import can_be_disorderly, order_of
from stuckrows.errors import Mismatch
from stuckrows.frees import slots, with_places
from stuckrows.levels import spread
from stuckrows.limits import can_be_stuck_within, fewest_of, least_counts, ring_within, safe_limits
from stuckrows.locks import LockTable
from stuckrows.modes import is_symmetric
from stuckrows.orders import further_orders, least_orders, with_orders
from stuckrows.ranks import ranks
from stuckrows.remedies import changes, least_remedy, touched, with_changes
from stuckrows.rings import can_be_stuck, fewest, ring_schedule, shortest_ring, shows_ring
from stuckrows.runs import least_schedule, outcomes, play, stuck_behind
from stuckrows.strangers import stranger_ring
from stuckrows.templates import asked_at, check_system, held_at, positions
from stuckrows.texts import read_system, system_text


def any_instances(chance, system, count, keys):
    """Some instances of a system with few keys, None if a template has no keys among them."""
    some = []
    for _ in range(200):
        index = chance.randrange(len(system[2]))
        template = system[2][index]
        row = tuple(chance.choice(keys) for _ in template[1])
        key_of = dict(zip([param for param, _ in template[1]], row))
        tables = [(table, key) for (_, table), key in zip(template[1], row)]
        if len(set(tables)) == len(tables) and all(key_of[low] < key_of[high] for low, high in template[2]):
            some.append((index, row))
        if len(some) == count:
            return some
    return None


def any_schedule(chance, system, some):
    """A schedule, and what play tells behind it."""
    schedule = []
    told = play(system, some, schedule)
    while chance.random() > 0.03:
        ready = [index for index, row in enumerate(told) if row[1] == "ready"]
        if not ready:
            break
        schedule.append(chance.choice(ready))
        told = play(system, some, schedule)
    return schedule, told


class Whole(Case):

    def test_nothing_is_stuck_exactly_if_there_is_no_ring(self):
        chance = random.Random(151)
        seen = {True: 0, False: 0}
        for _ in range(200):
            system = any_system(chance, 3, 2, (3, 5, 2))
            size = len(system[2])
            whole = tuple(range(size))
            stuck = can_be_stuck(system)
            count = fewest(system)
            self.assertEqual([count is not None, shortest_ring(system) is not None], [stuck] * 2)
            self.assertEqual([bool(least_counts(system)), safe_limits(system) != [(None,) * size]], [stuck] * 2)
            self.assertIs(can_be_stuck_within(system, [None] * size), stuck)
            self.assertEqual([bool(least_companies(system)), safe_companies(system) != [whole]], [stuck] * 2)
            self.assertEqual([least_removal(system, [1] * size) != (), company_ring(system, whole) is not None], [stuck] * 2)
            self.assertEqual([least_orders(system, 0) is None, least_remedy(system, {}, 0) is None], [stuck] * 2)
            self.assertEqual([fewest_of(system, index) is not None for index in whole], [stuck] * size)
            if ranks(system) is not None:
                self.assertIs(stuck, False)
            if stuck:
                self.rings(system, count)
            seen[stuck] += 1
        self.assertGreater(min(seen.values()), 30)

    def rings(self, system, count):
        ring = shortest_ring(system)
        whole = range(len(system[2]))
        for one in (ring, ring_within(system, [None for _ in whole]), company_ring(system, tuple(whole))):
            self.assertEqual(len(one), count)
            instances, schedule = ring_schedule(system, one)
            self.assertEqual(stuck_behind(system, instances, schedule), list(range(count)))
            told = play(system, instances, schedule)
            self.assertEqual([row[0] for row in told], [step for _, step, _ in one])
            self.assertEqual({row[1] for row in told}, {"waits"})
            for index, row in enumerate(told):
                self.assertIn((index + 1) % count, row[2])
            if count < 4 and sum(len(system[2][index][3]) for index, _ in instances) < 10:
                self.assertLessEqual(len(least_schedule(system, instances, all_of=True)), len(schedule))
                self.assertGreater(outcomes(system, instances)[1], 0)
        self.assertEqual(sum(least_counts(system)[0]) >= count, True)
        # With the last template as a stranger there may be no ring, but each one is a ring of the system.
        rest = (system[0], system[1], system[2][:-1])
        if rest[2]:
            found = stranger_ring(rest, system[2][-1])
            self.assertTrue(found is None or shows_ring(system, found) and len(found) >= count)

    def test_so_many_instances_at_least_are_stuck(self):
        chance = random.Random(152)
        seen = 0
        for _ in range(600):
            system = any_system(chance, 2, 1, (2, 4, 1))
            some = any_instances(chance, system, chance.randint(2, 4), range(2))
            if some is None:
                continue
            schedule, told = any_schedule(chance, system, some)
            stuck = stuck_behind(system, some, schedule)
            if stuck:
                self.assertGreaterEqual(len(stuck), fewest(system))
                counts = [sum(some[at][0] == index for at in stuck) for index in range(len(system[2]))]
                self.assertIs(can_be_stuck_within(system, counts), True)
                self.assertTrue(any(set(one) <= {some[at][0] for at in stuck} for one in least_companies(system)))
            seen += bool(stuck)
            # Who cannot go on any more is stuck.
            if not any(row[1] == "ready" for row in told):
                self.assertEqual([at for at, row in enumerate(told) if row[1] == "waits"], stuck)
        self.assertGreater(seen, 30)

    def test_what_runs_do_is_what_the_lock_table_does(self):
        chance = random.Random(153)
        waits = 0
        for _ in range(500):
            system = any_system(chance, 2, 1, (2, 5, 1))
            some = any_instances(chance, system, chance.randint(1, 4), range(3))
            if some is None:
                continue
            schedule, told = any_schedule(chance, system, some)
            table = LockTable(system[0])
            done = [0] * len(some)
            for index in schedule:
                template, keys = some[index]
                _, params, _, steps = system[2][template]
                rows = {param: (where, key) for (param, where), key in zip(params, keys)}
                if done[index] == len(steps):
                    granted = table.finish(index)
                else:
                    step = steps[done[index]]
                    item = rows.get(step[1], step[1])
                    if step[0] == "free":
                        granted = table.let_go(index, item)
                    else:
                        granted = []
                        done[index] -= not table.ask(index, item, step[2])
                for other in [index] + [other for other, _ in granted]:
                    done[other] += 1
            self.assertEqual([row[0] for row in told], done)
            self.assertEqual([row[2] for row in told], [table.waits_for(index) for index in range(len(some))])
            self.assertEqual(stuck_behind(system, some, schedule), table.stuck_owners())
            for index, (template, keys) in enumerate(some):
                steps = system[2][template][3]
                if done[index] <= len(steps):
                    self.held_as_told(system, table, (index, template, keys), done[index])
                waits += table.ask_of(index) is not None
        self.assertGreater(waits, 50)

    def held_as_told(self, system, table, told, step):
        """What an instance holds, and what it waits for, is what held_at and asked_at tell."""
        index, template, keys = told
        rows = {param: (where, key) for (param, where), key in zip(system[2][template][1], keys)}
        held = {rows.get(name, name): mode for name, mode in held_at(system, template, step).items()}
        self.assertEqual(dict(table.holds_of(index)), held)
        if table.ask_of(index) is not None:
            name, mode = asked_at(system, template, step)
            self.assertEqual(table.ask_of(index), (rows.get(name, name), mode))
            self.assertIn((template, step), positions(system))

    def test_systems_that_are_made_are_systems(self):
        chance = random.Random(154)
        for _ in range(120):
            system = any_system(chance, 2, 1, (3, 5, 1))
            made = [with_orders(system, [order]) for order in further_orders(system)[:3]]
            made += [with_changes(system, [change]) for change in changes(system)]
            try:
                made.append(with_places(system, [low for _, _, low, _ in slots(system)]))
                made.append(spread(system, tuple((mode, mode, mode) for mode in system[0][0])))
            except ValueError:
                pass
            for one in made + [system]:
                self.assertIsNone(check_system(one))
                self.assertEqual(read_system(system_text(one)), one)
                self.assertIs(is_symmetric(one[0]), True)

    def test_who_keeps_all_to_the_end_is_orderly(self):
        chance = random.Random(155)
        for _ in range(150):
            modes, fixed, templates = any_system(chance, 2, 1, (2, 4, 1))
            templates = tuple(one[:3] + (tuple(step for step in one[3] if step[0] == "lock"),) for one in templates)
            system = (modes, fixed, templates)
            some = any_instances(chance, system, 3, range(2))
            if some is not None:
                schedule, _ = any_schedule(chance, system, some)
                self.assertIsNotNone(order_of(system, some, schedule))
            try:
                self.assertIs(can_be_disorderly(system), False)
            except Mismatch:
                self.assertTrue(fixed)

    def test_changes_that_leave_a_touched_template_as_it_is_do_not_help(self):
        system = system_of(UP, DOWN, LOOSE, READ_WRITE)
        for change in changes(system):
            alone = [index for index in touched(system) if index != change[1]]
            self.assertIs(can_be_stuck(with_changes(system, [change])), True)
            self.assertTrue(alone)
            for index in alone:
                self.assertIsNotNone(company_ring(with_changes(system, [change]), (index,)))


if __name__ == "__main__":
    unittest.main()
