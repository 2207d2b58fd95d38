import random
import unittest
from itertools import combinations, permutations, product

from brute import Plain
from cases import NO_RINGS, Case
from chance import any_system
from samples import (
    DOWN, LOCK_PQ, LOOSE, ODD, ONLY_X, PAIR, READ_WRITE, TWO, UP, changed, greatest_system, nested, system_of,
)
from stuckrows.errors import InvalidNumber, Mismatch, TooLarge
from stuckrows.orders import (
    fewest_kept, full_orders, further_orders, least_orders, needless_orders, orders_paper, shows_fewest, with_orders,
)
from stuckrows.rings import can_be_stuck, shows_ring
from stuckrows.templates import check_system, lesser

MOVE = ("move", PAIR, (), LOCK_PQ)
EXAMPLE = (ONLY_X, (), (MOVE,))
RING = [(0, 1, (0, 1)), (0, 1, (1, 0))]
FOUR = tuple((param, "acc") for param in "pqrs")
ALL_FOUR = tuple(("lock", param, "x") for param in "pqrs")


def names_of(template):
    return [param for param, _ in template[1]]


def further_key(system, order):
    names = names_of(system[2][order[0]])
    return (order[0], names.index(order[1]), names.index(order[2]))


class PlainOrders:
    """Further orders as the document tells them."""

    def __init__(self, system):
        self.system = system
        self.all = []
        for index, (_, params, _, _) in enumerate(system[2]):
            less = lesser(system, index)
            for (p, table), (q, other) in permutations(params, 2):
                if table == other and (p, q) not in less and (q, p) not in less:
                    self.all.append((index, p, q))
        self.all.sort(key=lambda order: further_key(system, order))

    def behind(self, orders):
        modes, fixed, templates = self.system
        made = []
        for index, (name, params, told, steps) in enumerate(templates):
            made.append((name, params, told + tuple((p, q) for at, p, q in orders if at == index), steps))
        return (modes, fixed, tuple(made))

    def fit(self, orders):
        try:
            check_system(self.behind(orders))
        except ValueError:
            return False
        return True

    def sets(self, size):
        return [list(some) for some in combinations(self.all, size) if self.fit(some)]

    def least(self, most):
        for size in range(most + 1):
            for some in self.sets(size):
                if not can_be_stuck(self.behind(some)):
                    return some
        return None

    def obeys(self, ring, orders):
        for template, _, keys in ring:
            names = names_of(self.system[2][template])
            for index, p, q in orders:
                if index == template and not keys[names.index(p)] < keys[names.index(q)]:
                    return False
        return True

    def is_paper(self, size, paper):
        if type(paper) is not list or not all(shows_ring(self.system, ring) for ring in paper):
            return False
        return size == 0 or all(any(self.obeys(ring, some) for ring in paper) for some in self.sets(size - 1))

    def full(self):
        rows = []
        for index, (_, params, _, _) in enumerate(self.system[2]):
            tables = list(dict.fromkeys(table for _, table in params))
            tables = [[p for p, other in params if other == table] for table in tables]
            choices = []
            for names in tables:
                if len(names) > 1:
                    less = lesser(self.system, index)
                    choices.append([row for row in permutations(names) if not any(
                        (later, row[at]) in less for at in range(len(row)) for later in row[at:])])
            rows.append(list(product(*choices)))
        for full in product(*rows):
            orders = [(at, p, q) for at, tables in enumerate(full) for row in tables for p, q in zip(row, row[1:])]
            if not can_be_stuck(self.behind(orders)):
                return list(full)
        return None


class Examples(Case):

    def test_examples(self):
        self.assertEqual(further_orders(EXAMPLE), [(0, "p", "q"), (0, "q", "p")])
        self.assertEqual(with_orders(EXAMPLE, [(0, "q", "p")])[2][0][2], (("q", "p"),))
        self.raises(Mismatch, {"name": "orders"}, with_orders, EXAMPLE, [(0, "q", "p"), (0, "p", "q")])
        self.assertEqual([least_orders(EXAMPLE, 2), least_orders(EXAMPLE, 0)], [[(0, "p", "q")], None])
        shown = [([(0, "q", "p")], [RING]), ([(0, "q", "p")], []), ([], [RING])]
        self.assertEqual([shows_fewest(EXAMPLE, *row) for row in shown], [True, False, False])
        steps = ALL_FOUR[:3]
        sort = ("sort", FOUR[:3], (("p", "r"), ("p", "q"), ("q", "r")), steps)
        system = (ONLY_X, (), (sort,))
        self.assertEqual([needless_orders(system), fewest_kept(system)], [[(0, 0)], [(0, 1), (0, 2)]])
        back = ("back", PAIR, (), LOCK_PQ[::-1])
        self.assertEqual(full_orders((ONLY_X, (), (MOVE, back))), [(("p", "q"),), (("q", "p"),)])

    def test_further_orders(self):
        orders = (("p", "q"), ("q", "r"))
        system = (ONLY_X, ("f",), (UP, ("a", FOUR, orders, ALL_FOUR), ("b", (("s", "t"), ("p", "u"), ("q", "t")), (), ALL_FOUR[3:])))
        self.assertEqual(further_orders(system), [
            (1, "p", "s"), (1, "q", "s"), (1, "r", "s"), (1, "s", "p"), (1, "s", "q"), (1, "s", "r"),
            (2, "s", "q"), (2, "q", "s"),
        ])
        for index, count in ((0, 0), (1, 6), (2, 2)):
            self.assertEqual(sum(order[0] == index for order in further_orders(system)), count)
        self.assertEqual(further_orders(system_of(READ_WRITE)), [])

    def test_with_orders_puts_them_in_the_given_order(self):
        system = (ONLY_X, (), (("a", FOUR, (("p", "q"),), ALL_FOUR), MOVE))
        some = [(1, "q", "p"), (0, "r", "q"), (0, "s", "r"), (0, "s", "q")]
        made = with_orders(system, some)
        self.assertEqual(made[2][0][2], (("p", "q"), ("r", "q"), ("s", "r"), ("s", "q")))
        self.assertEqual([made[:2], made[2][0][:2], made[2][1][2]], [system[:2], system[2][0][:2], (("q", "p"),)])
        self.assertEqual(with_orders(system, tuple(some)), made)
        self.assertEqual([with_orders(system, ()), with_orders(system, [])], [system, system])

    def test_least_orders(self):
        self.assertEqual([least_orders(system_of(UP), most) for most in range(4)], [[]] * 4)
        system = (ONLY_X, (), (("a", FOUR, (), ALL_FOUR),))
        self.assertEqual([least_orders(system, most) for most in range(3)], [None] * 3)
        self.assertEqual(least_orders(system, 3), [(0, "p", "q"), (0, "q", "r"), (0, "r", "s")])
        # Orders do not help against readers that want to write.
        self.assertIsNone(least_orders(system_of(READ_WRITE, LOOSE), 3))
        self.assertIsNone(full_orders(system_of(READ_WRITE, LOOSE)))

    def test_papers(self):
        for system in (EXAMPLE, (ONLY_X, (), (("a", FOUR, (), ALL_FOUR),)), system_of(LOOSE, DOWN), system_of(UP)):
            some, paper = orders_paper(system, 3)
            self.assertEqual(some, least_orders(system, 3))
            self.assertIs(shows_fewest(system, some, paper), True)
            self.assertIs(shows_fewest(system, tuple(some), paper), True)
            self.assertIs(shows_fewest(system, some, tuple(paper)), False)
            self.assertIs(shows_fewest(system, some, paper + [paper]), False)
            self.assertEqual(shows_fewest(system, some, []), not some)
            self.assertIs(shows_fewest(system, some, [tuple(ring) for ring in paper]), True)
        self.assertIsNone(orders_paper(EXAMPLE, 0))
        for value in ODD + [nested(list, 100000)]:
            self.assertIs(shows_fewest(EXAMPLE, [(0, "p", "q")], value), False)
            self.assertIs(shows_fewest(EXAMPLE, [(0, "p", "q")], [RING, value]), False)
        for ring in ([RING[0]], [RING[0]] * 2, RING + [5], [(0, 0, (0, 1)), RING[1]], [(0, True, (0, 1)), RING[1]]):
            self.assertIs(shows_fewest(EXAMPLE, [(0, "p", "q")], [RING, ring]), False)
        # For no orders every list of rings is a paper, if nothing can be stuck; and then there are no rings.
        self.assertIs(shows_fewest(system_of(UP), [], []), True)
        self.assertIs(shows_fewest(system_of(UP), [], [RING]), False)
        self.assertIs(shows_fewest(system_of(UP), [], ()), False)

    def test_orders_that_the_templates_have(self):
        twice = ("twice", PAIR, (("p", "q"), ("p", "q")), LOCK_PQ)
        self.assertEqual([needless_orders(system_of(twice)), fewest_kept(system_of(twice))], [[(0, 0), (0, 1)], [(0, 0)]])
        # No ring needs the second template's orders: it holds no row when it asks.
        one = ("one", PAIR, (("q", "p"),), LOCK_PQ[:1])
        self.assertEqual([needless_orders(system_of(UP, one)), fewest_kept(system_of(UP, one))], [[(1, 0)], [(0, 0)]])
        self.assertEqual([needless_orders(system_of(UP)), fewest_kept(system_of(UP))], [[], [(0, 0)]])
        self.assertEqual([needless_orders(system_of(one)), fewest_kept(system_of(one))], [[(0, 0)], []])
        for function in (needless_orders, fewest_kept):
            self.raises(Mismatch, {"name": "stuck"}, function, EXAMPLE)
            self.raises(Mismatch, {"name": "stuck"}, function, system_of(UP, DOWN))
        eight = ("eight", PAIR, (("p", "q"),) * 8, LOCK_PQ)
        self.assertEqual([fewest_kept(system_of(eight)), len(needless_orders(system_of(eight)))], [[(0, 0)], 8])
        nine = changed(eight, 2, (("p", "q"),) * 9)
        self.raises(TooLarge, {"limit": 8}, fewest_kept, system_of(nine))
        self.assertEqual(len(needless_orders(system_of(nine))), 9)
        self.raises(TooLarge, {"limit": 8}, fewest_kept, system_of(eight, one))
        self.raises(Mismatch, {"name": "stuck"}, fewest_kept, system_of(nine, DOWN))

    def test_full_orders(self):
        self.assertEqual(full_orders(system_of(READ_WRITE[:3] + (READ_WRITE[3][:1],))), [()])
        steps = tuple(("lock", param, "x") for param in "prqs")
        two = ("two", (("p", "u"), ("q", "t"), ("r", "u"), ("s", "t")), (), steps)
        self.assertEqual(full_orders((ONLY_X, (), (two,))), [(("p", "r"), ("q", "s"))])
        same = changed(two, 2, (("r", "p"),))
        self.assertEqual(full_orders((ONLY_X, (), (same,))), [(("r", "p"), ("q", "s"))])
        self.assertIsNone(full_orders((ONLY_X, (), (changed(two, 2, (("p", "r"),)), changed(same, 0, "o")))))
        self.assertEqual(
            full_orders((ONLY_X, (), (two, changed(same, 0, "o")))),
            [(("r", "p"), ("q", "s")), (("r", "p"), ("q", "s"))])
        # 24 * 12 full orders are not more than 300, 24 * 24 are.
        some = [("a", FOUR, (), ALL_FOUR), ("b", FOUR, (("s", "p"),), ALL_FOUR[:1])]
        self.assertEqual(full_orders((ONLY_X, (), tuple(some))), [(("p", "q", "r", "s"),), (("q", "r", "s", "p"),)])
        # 12 * 5 * 5 are just 300.
        five = [("five" + name, FOUR, (("p", "r"), ("q", "r"), ("q", "s")), ALL_FOUR[:1]) for name in "ab"]
        self.assertEqual(full_orders((ONLY_X, (), tuple(some[1:] + five))), [
            (("q", "r", "s", "p"),)] + [(("p", "q", "r", "s"),)] * 2)
        some[1] = changed(some[1], 2, ())
        self.raises(TooLarge, {"limit": 300}, full_orders, (ONLY_X, (), tuple(some)))
        self.raises(TooLarge, {"limit": 300}, full_orders, (ONLY_X, (), (some[0], changed(some[0], 0, "c"), UP)))

    def test_the_greatest_system(self):
        system = greatest_system()
        self.assertEqual([least_orders(system, 3), orders_paper(system, 3)], [[], ([], [])])
        self.assertEqual(needless_orders(system), [(index, 0) for index in range(6)])
        self.assertEqual(full_orders(system), [(tuple(names_of(one)),) for one in system[2]])
        self.raises(TooLarge, {"limit": 8}, fewest_kept, system)

    def test_each_answer_is_always_the_same_and_new(self):
        system = (ONLY_X, (), (("a", FOUR[:3], (), ALL_FOUR[:3]), UP))
        kept = system_of(UP, ("three", FOUR[:3], (("p", "r"), ("p", "q"), ("q", "r")), ALL_FOUR[:3]))
        self.same_by_keyword(further_orders, system=system)
        self.same_by_keyword(with_orders, system=system, orders=[(0, "q", "p")])
        self.same_by_keyword(least_orders, system=system, most=3)
        some, paper = self.same_by_keyword(orders_paper, system=system, most=3)
        self.same_by_keyword(shows_fewest, system=system, orders=some, paper=paper)
        self.same_by_keyword(needless_orders, system=kept)
        self.same_by_keyword(fewest_kept, system=kept)
        self.same_by_keyword(full_orders, system=system)


class Drawn(Case):

    def test_all_sets_and_all_rows_of_orders(self):
        chance = random.Random(81)
        seen = {}
        for _ in range(600):
            system = any_system(chance, 2, 1, (3, 6, 1))
            plain = PlainOrders(system)
            self.assertEqual(further_orders(system), plain.all)
            if len(plain.all) > 8:
                continue
            least = plain.least(3)
            for most in range(4):
                expected = least if least is not None and len(least) <= most else None
                self.assertEqual(least_orders(system, most), expected)
            found = orders_paper(system, 3)
            self.assertEqual(None if found is None else found[0], least)
            full = plain.full()
            self.assertEqual(full_orders(system), full)
            if full is None:
                self.assertIsNone(least)
            if found is not None:
                self.papers(chance, system, plain, found)
            seen[None if least is None else len(least)] = seen.get(None if least is None else len(least), 0) + 1
        for size in (None, 0, 1, 2):
            self.assertGreater(seen.get(size, 0), 2, seen)

    def papers(self, chance, system, plain, found):
        some, paper = found
        self.assertTrue(plain.is_paper(len(some), paper))
        self.assertIs(shows_fewest(system, some, paper), True)
        for place in range(len(paper)):
            less = paper[:place] + paper[place + 1:]
            self.assertIs(shows_fewest(system, some, less), plain.is_paper(len(some), less))
        for more in plain.sets(len(some) + 1)[:3] if len(some) < 3 else []:
            calm = not can_be_stuck(plain.behind(more))
            self.assertIs(shows_fewest(system, more, paper), calm and plain.is_paper(len(more), paper))

    def test_orders_that_are_kept(self):
        chance = random.Random(82)
        seen = {}
        while sum(seen.values()) < 60:
            system = any_system(chance, 3, 1, (3, 5, 1))
            told = [(index, place) for index, one in enumerate(system[2]) for place in range(len(one[2]))]
            if not told or len(told) > 5 or can_be_stuck(system):
                continue
            calm = []
            for size in range(len(told) + 1):
                calm += [list(kept) for kept in combinations(told, size) if not can_be_stuck(self.keeping(system, kept))]
            self.assertEqual(fewest_kept(system), calm[0])
            without = [one for one in told if [other for other in told if other != one] in calm]
            self.assertEqual(needless_orders(system), without)
            seen[len(calm[0])] = seen.get(len(calm[0]), 0) + 1
        self.assertGreater(seen.get(1, 0) + seen.get(2, 0), 2, seen)

    def keeping(self, system, kept):
        modes, fixed, templates = system
        made = []
        for index, (name, params, orders, steps) in enumerate(templates):
            made.append((name, params, tuple(pair for at, pair in enumerate(orders) if (index, at) in kept), steps))
        return (modes, fixed, tuple(made))

    def test_more_orders_never_make_anything_stuck(self):
        chance = random.Random(83)
        for _ in range(150):
            system = any_system(chance, 2, 1, (3, 5, 1))
            if not can_be_stuck(system):
                plain = PlainOrders(system)
                for some in plain.sets(1) + plain.sets(2)[:4]:
                    self.assertIs(can_be_stuck(with_orders(system, some)), False)

    def test_rings_of_papers_are_rings(self):
        system = (TWO, (), (("a", FOUR, (), ALL_FOUR), LOOSE))
        self.assertIsNone(least_orders(system, 3))
        some, paper = orders_paper((TWO, (), (("a", FOUR[:3], (), ALL_FOUR[:3]), LOOSE)), 3)
        self.assertEqual(some, [(0, "p", "q"), (0, "q", "r"), (1, "p", "q")])
        for ring in paper:
            self.assertTrue(Plain((TWO, (), (("a", FOUR[:3], (), ALL_FOUR[:3]), LOOSE))).is_ring(ring))


class Errors(Case):

    def test_systems(self):
        calls = [
            lambda system: with_orders(system, 5), lambda system: least_orders(system, 5), further_orders,
            lambda system: orders_paper(most=5, system=system), lambda system: shows_fewest(system, 5, 5),
            needless_orders, fewest_kept, full_orders,
        ]
        self.tells_no_system(calls)
        # Mismatch("system") comes before each other Mismatch, and behind the errors of all arguments.
        self.tells_no_rings([calls[0], calls[2]] + calls[4:])
        self.tells_no_rings([lambda system: least_orders(system, 1), lambda system: orders_paper(system, 0)])
        nine = ("nine", PAIR, (("p", "q"),) * 9, LOCK_PQ)
        self.raises(Mismatch, {"name": "system"}, fewest_kept, (NO_RINGS[1][0], NO_RINGS[1][1], NO_RINGS[1][2] + (nine,)))

    def test_most(self):
        for function in (least_orders, orders_paper):
            for system in (EXAMPLE, NO_RINGS[0]):
                for value in ODD + [4, -1]:
                    self.raises(InvalidNumber, {"name": "most"}, function, system, value)

    def test_what_is_no_further_orders(self):
        good = (0, "p", "q")
        wrong = ODD + [good, "ab", [good, good], [good, (0, "q", "p")], {good: 1}, [(1, "p", "q")], [(0, "p", "p")]]
        wrong += [[(0, "p", "r")], [[0, "p", "q"]], [(False, "p", "q")], [(0, "p")], [(0, "p", "q", "r")], [(-1, "p", "q")]]
        wrong += [[good, value] for value in ODD] + [[(value, "p", "q")] for value in ODD]
        wrong += [[(0, value, "q")] for value in ODD] + [[(0, "p", value)] for value in ODD] + [nested(list, 100000)]
        # What would be taken for an empty list is one.
        wrong = [value for value in wrong if value != [] and value != ()]
        for value in wrong:
            self.raises(Mismatch, {"name": "orders"}, with_orders, EXAMPLE, value)
            self.raises(Mismatch, {"name": "orders"}, shows_fewest, EXAMPLE, value, [])
        system = (ONLY_X, (), (("a", FOUR, (("p", "q"), ("q", "r")), ALL_FOUR), UP))
        for some in ([(0, "p", "r")], [(0, "r", "p")], [(1, "q", "p")], [(0, "r", "s"), (0, "s", "p")], [(0, "p", "q")]):
            self.raises(Mismatch, {"name": "orders"}, with_orders, system, some)
        other = (ONLY_X, (), (("a", (("p", "t"), ("q", "u")), (), LOCK_PQ),))
        self.raises(Mismatch, {"name": "orders"}, with_orders, other, [(0, "p", "q")])

    def test_more_than_three_orders(self):
        system = (ONLY_X, (), (("a", FOUR, (), ALL_FOUR), MOVE))
        four = [(0, "p", "q"), (0, "q", "r"), (0, "r", "s"), (1, "p", "q")]
        self.raises(TooLarge, {"limit": 3}, shows_fewest, system, four, 5)
        self.raises(TooLarge, {"limit": 3}, shows_fewest, system, [(0, "p", "q"), (0, "q", "r"), (0, "p", "r"), (0, "p", "s")], [])
        self.raises(Mismatch, {"name": "orders"}, shows_fewest, system, four + [(0, "s", "p")], 5)
        self.assertIs(shows_fewest(system, four[:3], []), False)


if __name__ == "__main__":
    unittest.main()
