import random
import unittest

from cases import NO_RINGS, Case
from chance import any_modes, any_system, any_template
from lockplay import PlainRun, all_schedules, plain_order, plain_pairs
from plainearly import PlainEarly
from samples import LOCK_PQ, ODD, ONE_WAY, ONLY_S, ONLY_X, PAIR, READ_WRITE, TWO, UP, changed, greatest_system, nested, system_of
from stuckrows.early import (
    ahead_pairs, can_be_disorderly, fewest_disorderly, order_of, shortest_disorder, shows_disorder,
)
from stuckrows.errors import InvalidInstances, InvalidModes, InvalidSchedule, InvalidSystem, InvalidTemplate, Mismatch
from stuckrows.modes import check_modes, standard


def steps_of(text):
    """Steps from words such as px (lock p in x) and -p (free p)."""
    return tuple(("free", word[1:]) if word[0] == "-" else ("lock", word[0], word[1:]) for word in text.split())


def template(name, params, orders, steps):
    """A template whose params are single letters of one table, or pairs of letters: a param and its table."""
    pairs = tuple((word[0], word[1:] or "t") for word in params.split())
    return (name, pairs, tuple((word[0], word[1]) for word in orders.split()), steps_of(steps))


EARLY = template("early", "p q", "pq", "px -p qx")
EXAMPLE = (ONLY_X, (), (EARLY,))
TWO_ROWS = [(0, (1, 2)), (0, (1, 2))]


class Ahead(Case):

    def test_one_goes_by(self):
        # 0 is halted behind its free; 1 goes by it.
        schedule = [0, 0, 1, 1, 1, 1, 0, 0]
        self.assertEqual(ahead_pairs(EXAMPLE, TWO_ROWS, schedule), [(0, 1), (1, 0)])
        self.assertIsNone(order_of(EXAMPLE, TWO_ROWS, schedule))
        self.assertEqual([ahead_pairs(EXAMPLE, TWO_ROWS, schedule[:k]) for k in range(7)], [[]] * 3 + [[(0, 1)]] * 3 + [[(0, 1)]])
        self.assertEqual([order_of(EXAMPLE, TWO_ROWS, schedule[:k]) for k in (0, 2, 3, 6)], [[0, 1]] * 4)
        self.assertEqual(order_of(EXAMPLE, TWO_ROWS, [1] * 4 + [0]), [1, 0])

    def test_what_is_granted_behind_a_free_step_and_an_end_is_taken_later(self):
        system = (ONLY_X, (), (template("one", "p", "", "px -p"), template("two", "p", "", "px")))
        waits = [(0, (1,)), (1, (1,)), (1, (1,))]
        self.assertEqual(ahead_pairs(system, waits, [0, 1, 2]), [])
        self.assertEqual(ahead_pairs(system, waits, [0, 1, 2, 0]), [(0, 1)])
        self.assertEqual(ahead_pairs(system, waits, [0, 1, 2, 0, 1]), [(0, 1), (0, 2), (1, 2)])
        self.assertEqual(order_of(system, waits, [1, 2, 0, 1, 2, 0, 0]), [1, 2, 0])

    def test_conversions_and_modes_that_go_together(self):
        system = system_of(template("read", "p", "", "ps"), template("both", "p", "", "ps px"))
        some = [(0, (1,)), (1, (1,)), (0, (1,))]
        # s allows s: nobody is ahead; then the reader that ends is ahead of the writer that waits for it.
        self.assertEqual(ahead_pairs(system, some, [0, 0, 1]), [])
        self.assertEqual(ahead_pairs(system, some, [0, 1, 1, 0]), [(0, 1)])
        self.assertEqual(ahead_pairs(system, some, [0, 1, 1, 0, 1, 2]), [(0, 1), (1, 2)])
        # What is asked for again, but held already, is not taken again.
        again = system_of(template("again", "p", "", "px ps px"), template("free", "p q", "", "px -p qx"))
        self.assertEqual(ahead_pairs(again, [(0, (1,)), (1, (1, 2))], [1, 1, 0, 0, 0, 0, 1]), [(1, 0)])

    def test_uneven_modes_and_freed_fixed_items(self):
        # y may be given while x is held, but not the other way round.
        one, two = ("one", (), (), steps_of("fx -f")), ("two", (), (), steps_of("fy -f"))
        system = (ONE_WAY, ("f",), (one, two))
        some = [(0, ()), (1, ())]
        self.assertEqual([ahead_pairs(system, some, [0, 0, 1]), ahead_pairs(system, some, [1, 1, 0])], [[], [(1, 0)]])

    def test_at_several_items(self):
        system = (ONLY_X, ("f",), (("a", PAIR, (), (("lock", "f", "x"), ("free", "f")) + LOCK_PQ),))
        some = [(0, (1, 2)), (0, (1, 2)), (0, (3, 4))]
        self.assertEqual(ahead_pairs(system, some, [0] * 5 + [1] * 5), [(0, 1)])
        self.assertEqual(ahead_pairs(system, some, [0, 0, 1, 1, 1, 1, 1, 0, 0, 0]), [(0, 1), (1, 0)])
        self.assertEqual(ahead_pairs(system, some, [2, 2, 0, 0, 2, 1, 1, 0]), [(0, 1), (2, 0), (2, 1)])
        self.assertEqual(order_of(system, some, [2, 2, 0, 0, 2, 1, 1, 0]), [2, 0, 1])

    def test_followed_step_by_step(self):
        chance = random.Random(111)
        modes = [modes for modes in self.uneven() if check_modes(modes) is None]
        found = {"some": 0, "none": 0, "waits": 0}
        for _ in range(1500):
            system = self.any_early(chance, modes)
            keys = [tuple(chance.sample(range(3), len(one[1]))) for one in system[2]]
            count = chance.randint(1, 4)
            some = []
            while len(some) < count:
                index = chance.randrange(len(system[2]))
                row = tuple(chance.sample(range(4), len(system[2][index][1])))
                some.append((index, chance.choice([row, keys[index]])))
            run, schedule = PlainRun(system, some), []
            while run.with_turn() and chance.random() > 0.02:
                schedule.append(chance.choice(run.with_turn()))
                run.turn(schedule[-1])
            pairs = plain_pairs(system, some, schedule)
            self.assertEqual(ahead_pairs(system, some, schedule), pairs)
            order = plain_order(count, pairs)
            self.assertEqual(order_of(system, tuple(some), tuple(schedule)), order)
            found["none" if order is None else "some"] += bool(pairs)
            found["waits"] += bool(run.table.waiting)
        self.assertGreater(min(found.values()), 20, found)

    def uneven(self):
        both = [("a", "a"), ("a", "b"), ("b", "a"), ("b", "b")]
        for bits in range(16):
            for join in "ab":
                yield (("a", "b"), tuple(pair for at, pair in enumerate(both) if bits >> at & 1), (("a", "b", join),))

    def any_early(self, chance, modes):
        """A system with uneven modes and many free steps, also of fixed items."""
        some = chance.choice(modes + [standard()] * 3)
        templates = []
        for name in ("one", "two")[:chance.randint(1, 2)]:
            params = tuple((param, "t") for param in "pq"[:chance.randint(0, 2)])
            items = [param for param, _ in params] + ["f"]
            templates.append((name, params, (), any_early_steps(chance, items, some, chance.randint(2, 6))))
        return (some, ("f",), tuple(templates))

    def test_each_answer_is_always_the_same_and_new(self):
        for schedule in ([0, 0, 1, 1, 1, 1, 0, 0], [0, 0, 1]):
            self.same_by_keyword(ahead_pairs, system=EXAMPLE, instances=TWO_ROWS, schedule=schedule)
            self.same_by_keyword(order_of, system=EXAMPLE, instances=TWO_ROWS, schedule=schedule)


def any_early_steps(chance, items, modes, count, free=0.4):
    """So many steps over items, many of them free steps."""
    steps, held, freed = [], [], []
    while len(steps) < count:
        if held and chance.random() < free:
            item = chance.choice(held)
            held.remove(item)
            freed.append(item)
            steps.append(("free", item))
            continue
        choice = [item for item in items if item not in freed]
        if not choice:
            break
        item = chance.choice(choice)
        if item not in held:
            held.append(item)
        steps.append(("lock", item, chance.choice(modes[0])))
    return tuple(steps)


def any_orderly_system(chance, params, tables):
    """A system of which disorders speak, without fixed items, with many free steps."""
    modes = any_modes(chance)
    templates = []
    for name in ("one", "two")[:chance.randint(1, 2)]:
        made = any_template(chance, name, modes, (), (params, 4, tables))
        items = [param for param, _ in made[1]]
        if items:
            templates.append(made[:3] + (any_early_steps(chance, items, modes, chance.randint(2, 6)),))
    return (modes, (), tuple(templates)) if templates else any_orderly_system(chance, params, tables)


class Disorders(Case):

    def has_disorder(self, system, count):
        self.assertEqual(fewest_disorderly(system), count)
        self.assertIs(can_be_disorderly(system), count is not None)
        found = shortest_disorder(system)
        if count is None:
            self.assertIsNone(found)
            return None
        self.assertEqual([type(found), type(found[0]), len(found[0])], [tuple, list, count])
        self.assertIs(shows_disorder(system, found), True)
        self.assertIs(shows_disorder(system, (tuple(found[0]), found[1])), True)
        self.assertTrue(PlainEarly(system).is_disorder(*found))
        return found

    def test_two_rows(self):
        self.has_disorder(EXAMPLE, 2)
        self.has_disorder((ONLY_X, (), (template("a", "p q", "qp", "px -p qx"),)), 2)
        self.has_disorder((ONLY_X, (), (template("a", "p qu", "", "px -p qx"),)), 2)
        self.has_disorder((ONLY_X, (), (template("a", "p q", "", "px qx -p"),)), None)
        self.has_disorder((ONLY_X, (), (UP, changed(UP, 0, "b"))), None)
        # Just one instance frees early.
        self.has_disorder((ONLY_X, (), (EARLY, template("late", "p q", "pq", "px qx"))), 2)

    def test_keys(self):
        late = template("late", "p", "", "px")
        # Nobody else has both rows, and others of the early template only ascend.
        fork = template("fork", "p q", "", "px qx")
        for count, others in ((2, [fork]), (2, [])):
            self.has_disorder((ONLY_X, (), tuple([EARLY] + others)), count)
        # The halted one reads p and writes q: one that writes p is followed by one that reads p and writes q.
        early = template("a", "p q", "pq", "ps -p qx")
        self.has_disorder(system_of(early), 3)
        self.has_disorder(system_of(early, template("b", "p q", "qp", "px qx")), 2)
        # Of both rows the others must lock one in x and the other one in s.
        for orders, count in (("", 2), ("qp", 2), ("pq", 3)):
            self.has_disorder(system_of(template("a", "p q", "pq", "px -p qs"), template("b", "p q", orders, "px qs")), count)

    def test_chains(self):
        # The early one goes from u to v, the others lead from v by way of a .. back to u.
        for size in range(1, 4):
            tables = "v" + "ab"[:size - 1] + "u"
            others = [
                template("x" + low + high, "p" + low + " q" + high, "", "px qx") for low, high in zip(tables, tables[1:])
            ]
            early = template("early", "pu qv", "", "ps -p qs")
            found = self.has_disorder(system_of(early, *others), size + 1)
            for place in range(1, size + 1):
                less = found[0][:place] + found[0][place + 1:]
                self.assertIs(shows_disorder(system_of(early, *others), (less, found[1])), False)
            self.has_disorder((TWO, (), tuple([early] + others[1:])), None)

    def test_what_the_halted_one_holds_of_what_it_takes_last(self):
        # It holds q in s when it is halted: what others do there must go with s, and not with x.
        self.has_disorder(system_of(template("early", "p q", "", "ps qs -p qx")), 2)
        early = template("early", "p q", "pq", "ps qs -p qx")
        self.has_disorder(system_of(early), 4)
        self.has_disorder(system_of(early, template("b", "p q", "", "px qx")), 3)
        self.has_disorder(system_of(early, template("b", "p q", "", "px qs")), 2)
        # Two at its row: one that reads goes with what it holds, the other one is ahead of it by way of it.
        modes = (("a", "b", "c"), (("a", "a"), ("a", "b"), ("b", "a")), (("a", "b", "b"), ("a", "c", "c"), ("b", "c", "c")))
        self.assertIsNone(check_modes(modes))
        early = template("early", "p q", "", "pa qa -p qb")
        self.has_disorder((modes, (), (early, template("b", "p q", "", "pc qb"))), 2)

    def test_fixed_items(self):
        # Asks at fixed items allow one another, and change nothing.
        early = template("early", "p q", "", "fs px -p qx fs")
        self.has_disorder(system_of(early, fixed=("f",)), 2)
        self.has_disorder((standard(), ("f",), (template("a", "p q", "", "fix px -p qx fis"),)), 2)
        for steps, modes in (("fx", TWO), ("fs px fx", TWO), ("fs fix", standard()), ("fu", standard())):
            system = (modes, ("f",), (template("a", "p q", "", steps), EARLY))
            for call in (can_be_disorderly, shortest_disorder, fewest_disorderly, lambda one: shows_disorder(one, 5)):
                self.raises(Mismatch, {"name": "system"}, call, system)
        two = (standard(), ("f",), (template("a", "p", "", "fs"), template("b", "p", "", "fix")))
        self.raises(Mismatch, {"name": "system"}, can_be_disorderly, two)
        # What a step asks for counts, not its mode: six is more than s and ix.
        self.raises(Mismatch, {"name": "system"}, can_be_disorderly, (standard(), ("f",), (template("a", "p", "", "fis fix fs"),)))
        # A step by which nothing more is held asks for nothing.
        self.assertIs(can_be_disorderly((standard(), ("f",), (template("a", "p", "", "fix fis"),))), False)

    def test_no_params_and_the_greatest_system(self):
        self.has_disorder((ONLY_S, ("f",), (("a", (), (), steps_of("fs")),)), None)
        modes, fixed, templates = greatest_system()
        made = [one[:3] + (tuple(step for step in one[3] if step[1] not in fixed),) for one in templates]
        self.has_disorder((modes, (), tuple(made)), None)
        freed = [one[:3] + (one[3][:3] + (("free", one[3][2][1]),) + one[3][3:],) for one in made]
        self.has_disorder((modes, (), tuple(freed)), fewest_disorderly((modes, (), tuple(freed))))

    def test_shows_disorder(self):
        for turns, expected in ((0, False), (1, False), (2, True), (3, False), (4, False), (5, False), (10 ** 100, False)):
            self.assertIs(shows_disorder(EXAMPLE, (TWO_ROWS, turns)), expected)
        self.assertIs(shows_disorder(EXAMPLE, (tuple(TWO_ROWS), 2)), True)
        # The first one may be halted behind more turns than the others have.
        late = (ONLY_X, (), (template("a", "p q", "", "px px px px -p qx"), template("b", "p q", "", "px qx")))
        for turns in range(1, 9):
            self.assertIs(shows_disorder(late, ([(0, (1, 2)), (1, (1, 2))], turns)), turns == 5)
        # They need not be different, nor few.
        read = template("read", "p q", "", "px qs")
        system = system_of(template("a", "p q", "", "ps -p qx"), read)
        self.assertIs(shows_disorder(system, ([(0, (1, 2)), (1, (1, 2))], 2)), True)
        many = [(0, (0, 1))] + [(1, (key, key + 1)) for key in range(1, 2)]
        self.assertIs(shows_disorder(system, (many, 2)), False)
        line = (ONLY_X, (), (template("a", "p q", "", "px -p qx"), template("b", "p q", "", "px qx")))
        long = [(0, (0, 300))] + [(1, (key, key + 1)) for key in range(300)]
        self.assertIs(shows_disorder(line, (long, 2)), True)
        self.assertIs(shows_disorder(line, (long[:-1], 2)), False)
        self.assertIs(shows_disorder(line, (long[:1], 2)), False)
        wrong = ODD + [[TWO_ROWS, 2], (TWO_ROWS,), (TWO_ROWS, 2, 2), (TWO_ROWS, True), (TWO_ROWS[:1], 2), ([], 2), (TWO_ROWS, -1)]
        wrong += [(TWO_ROWS, value) for value in ODD] + [(value, 2) for value in ODD] + [(TWO_ROWS + [value], 2) for value in ODD]
        wrong += [([(0, (1, 2)), [0, (1, 2)]], 2), ([(0, (1, 2)), (0, [1, 2])], 2), ([(0, (1, 2)), (0, (2, 1))], 2), (dict(TWO_ROWS), 2)]
        wrong += [([(0, (1, 2)), (False, (1, 2))], 2), ([(0, (1, 2)), (0, (True, 2))], 2), nested(tuple, 100000)]
        for value in wrong:
            self.assertIs(shows_disorder(EXAMPLE, value), False)

    def test_all_disorders_of_few_instances(self):
        chance = random.Random(112)
        seen = {}
        for _ in range(260):
            params = chance.choice([2, 2, 2, 3])
            system = any_orderly_system(chance, params, chance.choice([1, 2]))
            plain = PlainEarly(system)
            keys = range(4 if max(len(one[1]) for one in system[2]) < 3 else 5)
            found = plain.all_disorders(2, keys) if len(plain.instances(keys)) < 70 else []
            count = fewest_disorderly(system)
            if found:
                self.assertEqual(count, 2)
            elif count == 2:
                self.assertEqual(params, 3)
            for instances, turns in chance.sample(found, min(len(found), 3)):
                self.assertIs(shows_disorder(system, (instances, turns)), True)
            if not found and len(plain.instances(keys)) < 15:
                self.assertEqual(bool(plain.all_disorders(3, keys)), count == 3)
            self.has_disorder(system, count)
            seen[count] = seen.get(count, 0) + 1
        self.assertGreater(min(seen.get(count, 0) for count in (None, 2, 3)), 1, seen)

    def test_all_schedules(self):
        chance = random.Random(113)
        seen = {True: 0, False: 0}
        for _ in range(300):
            system = any_orderly_system(chance, 2, 1)
            plain = PlainEarly(system)
            some = chance.choices(plain.instances(range(2)), k=2)
            if sum(len(system[2][index][3]) + 1 for index, _ in some) > 10:
                continue
            broken = False
            for schedule, _ in all_schedules(system, some):
                pairs = plain_pairs(system, some, schedule)
                broken = broken or plain_order(2, pairs) is None
            answer = can_be_disorderly(system)
            self.assertLessEqual(broken, answer)
            seen[broken] += 1
        self.assertGreater(min(seen.values()), 8, seen)

    def test_if_nothing_is_locked_behind_a_free_step_all_schedules_are_orderly(self):
        chance = random.Random(114)
        for _ in range(100):
            modes, _, templates = any_orderly_system(chance, 3, 2)
            made = []
            for one in templates:
                steps = sorted(one[3], key=lambda step: step[0] == "free")
                made.append(one[:3] + (tuple(steps),))
            self.assertIs(can_be_disorderly((modes, (), tuple(made))), False)

    def test_each_answer_is_always_the_same_and_new(self):
        for function in (can_be_disorderly, shortest_disorder, fewest_disorderly):
            self.same_by_keyword(function, system=EXAMPLE)
        self.same_by_keyword(shows_disorder, system=EXAMPLE, disorder=(TWO_ROWS, 2))


class Errors(Case):

    def test_systems(self):
        calls = [
            lambda system: ahead_pairs(system, 5, 5), lambda system: order_of(system, 5, 5), can_be_disorderly,
            shortest_disorder, fewest_disorderly, lambda system: shows_disorder(disorder=5, system=system),
        ]
        self.tells_no_system(calls)
        self.tells_no_rings(calls[2:])
        self.assertEqual(ahead_pairs(NO_RINGS[0], [(0, (1, 2))], []), [])

    def test_instances_and_schedules(self):
        for function in (ahead_pairs, order_of):
            for value in ODD + [[TWO_ROWS[0]] * 13, nested(list, 100000)]:
                self.raises(InvalidInstances, {"index": 0 if isinstance(value, (list, tuple)) and 0 < len(value) < 13 else -1}, function, EXAMPLE, value, 5)
            self.raises(InvalidInstances, {"index": 1}, function, EXAMPLE, [TWO_ROWS[0], (0, (2, 1))], 5)
            for value in [value for value in ODD if not isinstance(value, (list, tuple))] + [{0: 1}, "0"]:
                self.raises(InvalidSchedule, {"index": -1}, function, EXAMPLE, TWO_ROWS, value)
            for schedule, place in (
                ([2], 0), ([-1], 0), ([True], 0), ([0, 1, 1], 2), ([0, 0, 0, 0, 0], 4), ((0, nested(tuple, 100000)), 1), ([[0]], 0),
            ):
                self.raises(InvalidSchedule, {"index": place}, function, schedule=schedule, instances=TWO_ROWS, system=EXAMPLE)


if __name__ == "__main__":
    unittest.main()
