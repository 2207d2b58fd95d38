import random
import unittest
from itertools import permutations, product

from cases import NO_RINGS, Case
from samples import DOWN, ODD, ONLY_S, ONLY_X, READ_WRITE, TWO, UP, greatest_system, nested, system_of
from stuckrows.early import can_be_disorderly
from stuckrows.errors import InvalidNumber, Mismatch, TooLarge
from stuckrows.frees import calm_places, earliest, places_now, slots, with_places
from stuckrows.modes import standard
from stuckrows.rings import can_be_stuck
from stuckrows.templates import check_system
from test_early import EARLY, any_orderly_system, steps_of, template


def plain_slots(system):
    found = []
    for index, (_, params, _, steps) in enumerate(system[2]):
        locks = [step for step in steps if step[0] == "lock"]
        for param, _ in params:
            mine = [place for place, step in enumerate(locks) if step[1] == param]
            if mine:
                found.append((index, param, mine[-1] + 1, len(locks)))
    return found


def plain_places(system, places):
    """The rewritten system, told step by step."""
    table = dict(zip([slot[:2] for slot in plain_slots(system)], places))
    made = []
    for index, (name, params, orders, steps) in enumerate(system[2]):
        locks = [step for step in steps if step[0] == "lock"]
        rows = []
        for place, step in enumerate(locks):
            rows += [("free", param) for param, _ in params if table.get((index, param)) == place]
            rows.append(step)
        made.append((name, params, orders, tuple(rows)))
    return (system[0], system[1], tuple(made))


def all_places(system):
    return [list(row) for row in product(*[range(low, high + 1) for _, _, low, high in plain_slots(system)])]


THREE = template("three", "p q r", "pq qr", "px -p qx rx qx -q")


class Examples(Case):

    def test_slots(self):
        system = (TWO, ("f",), (template("a", "p qu r", "", "fs ps qs ps -p fs -q"), template("b", "r", "", "fs"), EARLY[:0] + UP))
        self.assertEqual(slots(system), [(0, "p", 4, 5), (0, "q", 3, 5), (2, "p", 1, 2), (2, "q", 2, 2)])
        # A free step behind the last lock step counts as high.
        self.assertEqual(places_now(system), [4, 5, 2, 2])
        self.assertEqual(slots((ONLY_X, (), (THREE,))), [(0, "p", 1, 4), (0, "q", 4, 4), (0, "r", 3, 4)])
        self.assertEqual(places_now((ONLY_X, (), (THREE,))), [1, 4, 4])
        none = (ONLY_S, ("f",), (("a", (), (), steps_of("fs")),))
        self.assertEqual([slots(none), places_now(none), with_places(none, []), earliest(none, ()), calm_places(none)], [[], [], none, [], []])

    def test_with_places(self):
        system = (ONLY_X, (), (THREE, EARLY))
        made = with_places(system, [3, 4, 3, 1, 2])
        self.assertEqual(made[2][0][3], steps_of("px qx rx -p -r qx"))
        self.assertEqual(made[2][1], EARLY)
        self.assertEqual(with_places(system, (4, 4, 4, 2, 2))[2][1][3], steps_of("px qx"))
        self.assertEqual(made[2][0][:3], THREE[:3])
        # What now stands behind the last lock step is left out.
        self.assertEqual(with_places(system, places_now(system))[2][0][3], steps_of("px -p qx rx qx"))
        # Several ones come in the order of the params.
        four = template("four", "s r q p", "", "px qx rx sx")
        self.assertEqual(with_places((ONLY_X, (), (four,)), [4, 3, 3, 3])[2][0][3], steps_of("px qx rx -r -q -p sx"))

    def test_more_than_eight_steps(self):
        five = template("five", "p q r s", "", "px qx rx sx px")
        self.assertEqual(len(with_places((ONLY_X, (), (five,)), [5, 4, 4, 4])[2][0][3]), 8)
        six = template("six", "p q r s", "", "px qx rx sx px px")
        self.assertEqual(with_places((ONLY_X, (), (six,)), [6, 5, 5, 6])[2][0][3], steps_of("px qx rx sx px -q -r px"))
        self.raises(TooLarge, {"limit": 8}, with_places, (ONLY_X, (), (six,)), [6, 5, 5, 5])
        self.raises(TooLarge, {"limit": 8}, earliest, (ONLY_X, (), (five,)), [(0, param) for param in "pqrs"])
        self.raises(TooLarge, {"limit": 8}, calm_places, (ONLY_X, (), (five,)))
        self.raises(TooLarge, {"limit": 8}, calm_places, (ONLY_X, (), (EARLY, six)))
        fixed = template("fixed", "p q", "", "fs px qx fs fs fs fs")
        self.raises(TooLarge, {"limit": 8}, calm_places, system_of(fixed, fixed=("f",)))
        # What is not locked again is no matter: four lock steps and four slots are eight.
        four = template("four", "p q r s", "pq qr rs", "px qx rx sx")
        self.assertEqual(earliest((ONLY_X, (), (four,)), [(0, param) for param in "pqrs"]), [4, 4, 4, 4])

    def test_more_than_three_hundred_lists(self):
        # Four locks of four rows have 4 * 3 * 2 * 1 lists of places.
        four = template("four", "p q r s", "pq qr rs", "px qx rx sx")
        self.assertEqual(calm_places((ONLY_X, (), (four,))), [4, 4, 4, 4])
        two = template("two", "p q", "pq", "px qx")
        twice = tuple(("two" + letter,) + two[1:] for letter in "abc")
        # 24 * 2 * 2 * 2 are 192 lists, 24 * 2 ** 4 are 384.
        self.assertEqual(calm_places((ONLY_X, (), (four,) + twice)), [4, 4, 4, 4] + [2] * 6)
        self.raises(TooLarge, {"limit": 300}, calm_places, (ONLY_X, (), (four,) + twice + (two,)))
        # 5 * 5 * 6 * 2 are just 300.
        just = [template("five" + name, "p q", "", "px qx qx qx qx") for name in "ab"]
        just += [template("six", "p q r", "", "px qx rx"), template("two", "p q", "", "px qx")]
        self.assertIsNone(calm_places((ONLY_X, (), tuple(just))))
        self.raises(TooLarge, {"limit": 300}, calm_places, (TWO, (), (READ_WRITE, four) + twice + (two,)))

    def test_calm_places(self):
        # A reader that frees is calm; one that keeps its row up to the write can be stuck.
        self.assertEqual(calm_places(system_of(UP)), [2, 2])
        self.assertIsNone(calm_places(system_of(UP, DOWN)))
        self.assertIsNone(calm_places(system_of(READ_WRITE)))
        reads = template("reads", "p q", "", "ps qs")
        self.assertEqual(calm_places(system_of(reads)), [1, 2])

    def test_the_greatest_system(self):
        system = greatest_system()
        self.raises(Mismatch, {"name": "system"}, slots, system)
        plain = tuple(one[:3] + (one[3][:4],) for one in system[2])
        self.assertEqual(len(slots((system[0], (), plain))), 24)
        self.raises(TooLarge, {"limit": 300}, calm_places, (system[0], (), plain))
        made = earliest((system[0], (), plain), [slot[:2] for slot in slots((system[0], (), plain))])
        self.assertIs(can_be_disorderly(with_places((system[0], (), plain), made)), False)

    def test_each_answer_is_always_the_same_and_new(self):
        system = (ONLY_X, (), (THREE[:3] + (THREE[3][:-2],), EARLY))
        self.same_by_keyword(slots, system=system)
        self.same_by_keyword(places_now, system=system)
        self.same_by_keyword(with_places, system=system, places=[2, 2, 3, 1, 2])
        self.same_by_keyword(earliest, system=system, order=[(1, "q"), (0, "p"), (0, "r"), (1, "p"), (0, "q")])
        self.same_by_keyword(calm_places, system=system)


class Drawn(Case):

    def test_all_lists_of_places(self):
        chance = random.Random(122)
        seen = {"none": 0, "now": 0, "early": 0, "late": 0}
        for _ in range(260):
            system = any_orderly_system(chance, 3, chance.choice([1, 2]))
            self.assertEqual(slots(system), plain_slots(system))
            lists = all_places(system)
            large = any(
                len([step for step in one[3] if step[0] == "lock"]) + sum(slot[0] == index for slot in slots(system)) > 8
                for index, one in enumerate(system[2]))
            if large or len(lists) > 60:
                continue
            made = {tuple(places): plain_places(system, places) for places in lists}
            for places in lists[:10]:
                self.assertEqual(with_places(system, places), made[tuple(places)])
                check_system(made[tuple(places)])
            unruly = {places: can_be_disorderly(one) for places, one in made.items()}
            stuck = {places: can_be_stuck(one) for places, one in made.items()}
            self.facts(system, unruly, stuck)
            calm = [list(places) for places in made if not unruly[places] and not stuck[places]]
            self.assertEqual(calm_places(system), min(calm, default=None))
            rows = [slot[:2] for slot in slots(system)]
            for order in [rows] + [chance.sample(rows, len(rows)) for _ in range(2)]:
                places = [high for _, _, _, high in slots(system)]
                for row in order:
                    at = rows.index(row)
                    places[at] = next(
                        place for place in range(slots(system)[at][2], slots(system)[at][3] + 1)
                        if not unruly[tuple(places[:at] + [place] + places[at + 1:])])
                self.assertEqual(earliest(system, order), places)
                self.least_places(system, unruly, places)
            seen["none"] += not calm
            seen["now"] += places == places_now(system)
            seen["early"] += bool(calm) and min(calm) != [high for _, _, _, high in slots(system)]
            seen["late"] += places == [high for _, _, _, high in slots(system)]
        self.assertGreater(min(seen.values()), 5, seen)

    def facts(self, system, unruly, stuck):
        high = tuple(high for _, _, _, high in slots(system))
        self.assertIs(unruly[high], False)
        for places in unruly:
            for at in range(len(places)):
                later = places[:at] + (places[at] + 1,) + places[at + 1:]
                if later in unruly:
                    self.assertLessEqual(unruly[later], unruly[places])
                    self.assertLessEqual(stuck[places], stuck[later])
        # What is now differs from its places only by free steps behind the last lock step.
        self.assertEqual(unruly[tuple(places_now(system))], can_be_disorderly(system))

    def least_places(self, system, unruly, places):
        """None of the places of earliest can be less with the others as they are."""
        for at in range(len(places)):
            for less in range(slots(system)[at][2], places[at]):
                self.assertIs(unruly[tuple(places[:at] + [less] + places[at + 1:])], True)


class Errors(Case):

    def test_systems(self):
        calls = [
            slots, places_now, calm_places, lambda system: with_places(system, 5),
            lambda system: earliest(order=5, system=system),
        ]
        self.tells_no_system(calls)
        gate = (standard(), ("f",), (template("a", "p", "", "fix px"), template("b", "p", "", "fs px")))
        for system in NO_RINGS + [gate]:
            rows = plain_slots(system)
            for call in calls[:3] + [
                lambda system: with_places(system, [slot[3] for slot in rows]),
                lambda system: earliest(system, [slot[:2] for slot in rows]),
            ]:
                self.raises(Mismatch, {"name": "system"}, call, system)

    def test_places(self):
        gate = (standard(), ("f",), (template("a", "p q", "", "px qx fx"),))
        for system, size in ((system_of(UP), 2), (gate, 3)):
            wrong = ODD + [[0, 2], [1, 1], [1, 4], [1], [1, 2, 2], [True, 2], [1, None], {1: 1, 2: 2}, nested(list, 100000)]
            wrong += [[value, 2] for value in ODD] + [[1, value] for value in ODD]
            for value in wrong:
                self.raises(InvalidNumber, {"name": "places"}, with_places, system, value)
            self.raises(InvalidNumber, {"name": "places"}, with_places, places=(1, size + 1), system=system)

    def test_orders(self):
        gate = (standard(), ("f",), (template("a", "p q", "", "px qx fx"),))
        good = [(0, "p"), (0, "q")]
        for system in (system_of(UP), gate):
            wrong = ODD + [good[:1], good + good[:1], good[:1] * 2, [(0, "p"), (0, "r")], [(0, "p"), (1, "q")], dict(good)]
            wrong += [[(0, "p"), [0, "q"]], [(False, "p"), (0, "q")], [(0, "p", 1), (0, "q")], [(0,), (0, "q")], nested(list, 100000)]
            wrong += [[good[0], value] for value in ODD] + [[(value, "p"), good[1]] for value in ODD] + [[(0, value), good[1]] for value in ODD]
            for value in wrong:
                self.raises(InvalidNumber, {"name": "order"}, earliest, system, value)
        for order in permutations(good):
            self.assertEqual([earliest(system_of(UP), order), earliest(system_of(UP), list(order))], [[2, 2]] * 2)
        # Params that are not locked have no slot.
        self.assertEqual(earliest(system_of(template("a", "p q", "", "qx")), [(0, "q")]), [1])


if __name__ == "__main__":
    unittest.main()
