import random
import unittest
from itertools import combinations

from brute import Plain
from cases import NO_RINGS, Case
from chance import any_system
from samples import (
    DOWN, LOCK_PQ, LOOSE, ODD, ONLY_S, ONLY_X, PAIR, READ_WRITE, TWO, UP, changed, greatest_system, nested, system_of,
)
from stuckrows.errors import InvalidNumber, InvalidPrices, Mismatch, TooLarge
from stuckrows.modes import standard
from stuckrows.orders import further_orders
from stuckrows.remedies import changes, least_remedy, remedy_paper, shows_least, touched, with_changes
from stuckrows.rings import can_be_stuck, shows_ring
from stuckrows.templates import check_system

MOVE = ("move", PAIR, (), LOCK_PQ)
EXAMPLE = (ONLY_X, (), (MOVE,))
RING = [(0, 1, (0, 1)), (0, 1, (1, 0))]
READERS = system_of(READ_WRITE)
WORDS = ("swap", "whole", "order", "gate")


class PlainChanges:
    """Changes as the document tells them."""

    def __init__(self, system):
        self.system = system
        self.modes, self.fixed, self.templates = system
        self.plain = Plain(system)
        self.all = self.swaps() + self.wholes() + [("order",) + one for one in further_orders(system)] + self.gates()

    def swaps(self):
        found = []
        for index, (_, _, _, steps) in enumerate(self.templates):
            for k in range(len(steps) - 1):
                if steps[k][0] == steps[k + 1][0] == "lock" and steps[k][1] != steps[k + 1][1]:
                    found.append(("swap", index, k))
        return found

    def whole(self, index, k):
        steps = self.templates[index][3]
        mode = None
        for step in steps:
            if step[0] == "lock" and step[1] == steps[k][1]:
                mode = self.plain.join(mode, step[2])
        return mode

    def wholes(self):
        found = []
        for index, (_, _, _, steps) in enumerate(self.templates):
            for k, step in enumerate(steps):
                first = step[0] == "lock" and not any(one[:2] == step[:2] for one in steps[:k])
                if first and self.whole(index, k) != step[2]:
                    found.append(("whole", index, k))
        return found

    def gates(self):
        names = list(self.fixed) + [param for template in self.templates for param, _ in template[1]]
        modes = [mode for mode in self.modes[0] if (mode, mode) not in self.modes[1]]
        if not modes or "gate" in names or len(self.fixed) > 3:
            return []
        return [("gate", index) for index, template in enumerate(self.templates) if len(template[3]) < 8]

    def key(self, change):
        places = [WORDS.index(change[0])] + list(change[1:])
        if change[0] == "order":
            names = [param for param, _ in self.templates[change[1]][1]]
            places[2:] = [names.index(change[2]), names.index(change[3])]
        return places

    def behind(self, some):
        """The changed system, None if the changes cannot be done together."""
        templates = [[name, params, orders, list(steps)] for name, params, orders, steps in self.templates]
        swapped = [(index, k + more) for _, index, k in [one for one in some if one[0] == "swap"] for more in (0, 1)]
        if len(set(swapped)) < len(swapped):
            return None
        fixed = self.fixed
        for change in sorted(some, key=lambda one: ((1, 0, 2, 3)[WORDS.index(one[0])], self.key(one))):
            mine = templates[change[1]]
            if change[0] == "whole":
                mine[3][change[2]] = mine[3][change[2]][:2] + (self.whole(change[1], change[2]),)
            if change[0] == "swap":
                k = change[2]
                mine[3][k:k + 2] = [mine[3][k + 1], mine[3][k]]
            if change[0] == "order":
                mine[2] += (change[2:],)
            if change[0] == "gate":
                mode = [mode for mode in self.modes[0] if (mode, mode) not in self.modes[1]][0]
                mine[3].insert(0, ("lock", "gate", mode))
                fixed = self.fixed + ("gate",)
        made = (self.modes, fixed, tuple((one[0], one[1], one[2], tuple(one[3])) for one in templates))
        try:
            check_system(made)
        except ValueError:
            return None
        return made

    def choices(self, prices, most):
        """All choices with their prices and the changed systems, the least ones first."""
        found = []
        for size in range(most + 1):
            for some in combinations([one for one in self.all if one[0] in prices], size):
                made = self.behind(some)
                if made is not None:
                    found.append((sum(prices[one[0]] for one in some), size, [self.key(one) for one in some], list(some), made))
        return sorted(found, key=lambda row: row[:3])

    def least(self, prices, most):
        for price, _, _, some, made in self.choices(prices, most):
            if not can_be_stuck(made):
                return (price, some)
        return None

    def is_paper(self, prices, most, price, paper):
        if type(paper) is not list:
            return False
        for entry in paper:
            if type(entry) is not tuple or len(entry) != 2:
                return False
            part, ring = entry
            if not isinstance(part, (list, tuple)) or not all(one in self.all for one in part):
                return False
            made = self.behind(part)
            if len(set(part)) < len(part) or made is None or not shows_ring(made, ring):
                return False
            if not {one[1] for one in part} <= {member[0] for member in ring}:
                return False
        for cost, _, _, some, _ in self.choices(prices, most):
            if cost < price and not any(
                sorted(part) == sorted(one for one in some if one[1] in {member[0] for member in ring})
                for part, ring in paper
            ):
                return False
        return True


class Examples(Case):

    def test_examples(self):
        self.assertEqual(changes(EXAMPLE), [("swap", 0, 0), ("order", 0, "p", "q"), ("order", 0, "q", "p"), ("gate", 0)])
        self.assertEqual(with_changes(EXAMPLE, [("gate", 0)])[2][0][3], (("lock", "gate", "x"),) + LOCK_PQ)
        self.assertEqual(least_remedy(EXAMPLE, {"swap": 1, "order": 3, "gate": 2}, 2), (2, [("gate", 0)]))
        self.assertIsNone(least_remedy(EXAMPLE, {"swap": 1}, 3))
        self.assertEqual(least_remedy(READERS, {"whole": 4, "gate": 5}, 1), (4, [("whole", 0, 0)]))
        paper = [([], RING), ([("swap", 0, 0)], RING)]
        prices = {"swap": 1, "gate": 2}
        shown = [shows_least(EXAMPLE, prices, 1, [("gate", 0)], rows) for rows in (paper, paper[:1])]
        self.assertEqual(shown, [True, False])
        one = ("one", PAIR, (("p", "q"),), LOCK_PQ)
        self.assertEqual(touched((ONLY_X, (), (one, MOVE))), [1])

    def test_wholes(self):
        steps = (("lock", "p", "is"), ("lock", "q", "s"), ("lock", "p", "ix"), ("lock", "p", "s"), ("lock", "q", "is"), ("free", "p"))
        system = (standard(), ("f",), (("a", PAIR, (), steps), ("b", (), (), (("lock", "f", "s"), ("lock", "f", "x")))))
        self.assertEqual([one for one in changes(system) if one[0] == "whole"], [("whole", 0, 0), ("whole", 1, 0)])
        made = with_changes(system, [("whole", 1, 0), ("whole", 0, 0)])
        self.assertEqual([made[2][0][3][0], made[2][0][3][1:]], [("lock", "p", "six"), steps[1:]])
        self.assertEqual(made[2][1][3], (("lock", "f", "x"), ("lock", "f", "x")))
        # A whole is the step's, and goes with it in a swap.
        made = with_changes(system, [("swap", 0, 0), ("whole", 0, 0)])
        self.assertEqual(made[2][0][3][:2], (("lock", "q", "s"), ("lock", "p", "six")))

    def test_swaps(self):
        steps = (("lock", "p", "s"), ("lock", "p", "x"), ("lock", "q", "x"), ("lock", "f", "s"), ("free", "p"))
        system = (TWO, ("f",), (("a", PAIR, (), steps), UP))
        self.assertEqual([one for one in changes(system) if one[0] == "swap"], [("swap", 0, 1), ("swap", 0, 2), ("swap", 1, 0)])
        made = with_changes(system, (("swap", 1, 0), ("swap", 0, 2)))
        self.assertEqual([made[2][0][3][1:4], made[2][1][3]], [(steps[1], steps[3], steps[2]), LOCK_PQ[::-1]])
        self.raises(Mismatch, {"name": "changes"}, with_changes, system, [("swap", 0, 1), ("swap", 0, 2)])
        # What is swapped may be the item's first lock step no more.
        self.assertEqual(with_changes(system, [("swap", 0, 1), ("whole", 0, 0)])[2][0][3][:3], (
            ("lock", "p", "x"), ("lock", "q", "x"), ("lock", "p", "x")))

    def test_gates(self):
        self.assertEqual([one for one in changes((ONLY_S, (), (("a", (("p", "t"),), (), (("lock", "p", "s"),)),)))], [])
        gated = system_of(UP, DOWN, READ_WRITE, fixed=("f",))
        made = with_changes(gated, [("gate", 2), ("gate", 0)])
        self.assertEqual(made[1], ("f", "gate"))
        self.assertEqual([one[3][0] for one in made[2]], [("lock", "gate", "x"), ("lock", "p", "x"), ("lock", "gate", "x")])
        # In the usual modes u is the first one that does not allow itself.
        system = (standard(), (), (UP,))
        self.assertEqual(with_changes(system, [("gate", 0)])[2][0][3][0], ("lock", "gate", "u"))
        for fixed, template in ((("gate",), UP), (("f", "g", "h", "k"), UP), ((), ("a", (("gate", "t"),), (), (("lock", "gate", "x"),)))):
            self.assertEqual([one for one in changes((TWO, fixed, (template,))) if one[0] == "gate"], [])
        for fixed, template in ((("f", "g", "h"), UP), ((), ("gate", (("p", "gate"),), (), (("lock", "p", "x"),)))):
            self.assertEqual([one for one in changes((TWO, fixed, (template,))) if one[0] == "gate"], [("gate", 0)])
        eight = ("eight", PAIR, (), LOCK_PQ * 4)
        self.assertEqual([one for one in changes(system_of(eight, UP)) if one[0] == "gate"], [("gate", 1)])
        self.assertEqual(("gate", 0) in changes(system_of(changed(eight, 3, (LOCK_PQ * 4)[:7]))), True)

    def test_orders_come_in_ascending_order_and_the_order_of_changes_does_not_matter(self):
        four = tuple((param, "acc") for param in "pqrs")
        system = (ONLY_X, (), (("a", four, (("q", "p"),), tuple(("lock", param, "x") for param in "pqrs")), MOVE))
        some = [("gate", 1), ("order", 0, "s", "r"), ("order", 0, "p", "r"), ("swap", 0, 2), ("order", 0, "p", "s"), ("order", 1, "q", "p")]
        made = with_changes(system, some)
        self.assertEqual(made[2][0][2], (("q", "p"), ("p", "r"), ("p", "s"), ("s", "r")))
        self.assertEqual([made[2][1][2], made[2][1][3][0]], [(("q", "p"),), ("lock", "gate", "x")])
        for _ in range(5):
            random.Random(5).shuffle(some)
            self.assertEqual(with_changes(system, tuple(some)), made)
        self.assertEqual([with_changes(system, []), with_changes(system, ())], [system, system])

    def test_remedies(self):
        self.assertEqual([least_remedy(system_of(UP), {}, most) for most in (0, 3)], [(0, [])] * 2)
        self.assertEqual(remedy_paper(system_of(UP), {"gate": 1}, 0), (0, [], []))
        self.assertEqual([least_remedy(EXAMPLE, {}, 3), least_remedy(EXAMPLE, {"gate": 1}, 0)], [None, None])
        # Of one price the fewest, then the least list.
        prices = {"swap": 1, "gate": 2, "order": 2}
        self.assertEqual(least_remedy(system_of(UP, DOWN), prices, 3), (1, [("swap", 0, 0)]))
        self.assertEqual(least_remedy(EXAMPLE, prices, 3), (2, [("order", 0, "p", "q")]))
        two = system_of(READ_WRITE, LOOSE)
        self.assertEqual(least_remedy(two, {"gate": 1, "whole": 1000}, 3), (2, [("gate", 0), ("gate", 1)]))
        self.assertEqual(least_remedy(two, {"gate": 1, "whole": 1000}, 1), None)
        self.assertEqual(least_remedy(two, {"order": 1, "whole": 2, "gate": 2, 5: "x", "other": 0}, 2), (3, [("whole", 0, 0), ("order", 1, "p", "q")]))

    def test_papers_and_what_is_none(self):
        prices = {"swap": 1, "gate": 2}
        some = [("gate", 0)]
        paper = [([], RING), ([("swap", 0, 0)], tuple(RING))]
        for good in (paper, paper[::-1], [((), RING), ((("swap", 0, 0),), RING)], paper + [([("order", 0, "p", "q")], RING)][:0]):
            self.assertIs(shows_least(EXAMPLE, prices, 2, some, good), True)
        late = [(0, 2, (0, 1)), (0, 2, (1, 0))]
        wrong = [
            tuple(paper), paper + [5], paper + [()], paper + [([], RING, 5)], paper + [[[], RING]], paper + [([], RING[:1])],
            paper + [([("swap", 0, 1)], RING)], paper + [([("swap", 0, 0)] * 2, RING)], paper + [([("gate", 0)], RING)],
            paper + [([("gate", 0)], late)], paper + [([("order", 0, "p", "q")], RING)], paper + [(5, RING)], paper[1:],
            [([("swap", 0, 0)], RING)], paper + [([("swap", False, 0)], RING)], paper + [([("swap", 0, False)], RING)],
            [([], RING), ([("swap", 0, 0)], [(0, 2, (0, 1)), (0, 1, (1, 0))])],
        ]
        for value in wrong + [value for value in ODD] + [paper + [value] for value in ODD] + [nested(list, 100000)]:
            self.assertIs(shows_least(EXAMPLE, prices, 2, some, value), False)
        for value in ODD + [nested(list, 100000)]:
            self.assertIs(shows_least(EXAMPLE, prices, 2, some, paper + [([], value)]), False)
            if value != () and value != []:
                self.assertIs(shows_least(EXAMPLE, prices, 2, some, paper + [(value, RING)]), False)
        # Changes that are too many, have no price, or do not help.
        self.assertIs(shows_least(EXAMPLE, prices, 0, some, paper), False)
        self.assertIs(shows_least(EXAMPLE, {"swap": 1}, 2, some, paper), False)
        self.assertIs(shows_least(EXAMPLE, prices, 2, [("swap", 0, 0)], paper), False)
        # A part must change nothing but templates with a member in the ring.
        system = system_of(LOOSE, ("other",) + READ_WRITE[1:])
        entry = ([("whole", 1, 0)], RING)
        self.assertIs(shows_least(system, {"gate": 9}, 2, [("gate", 0), ("gate", 1)], [([], RING)]), False)
        both = [([], RING), ([("gate", 0)], [(1, 1, (1,))] * 2)]
        self.assertIs(shows_least(system, {"gate": 9}, 2, [("gate", 0), ("gate", 1)], both), False)
        both = [([], RING), ([], [(1, 1, (1,))] * 2)]
        self.assertIs(shows_least(system, {"gate": 9}, 2, [("gate", 0), ("gate", 1)], both), True)
        self.assertIs(shows_least(system, {"gate": 9}, 2, [("gate", 0), ("gate", 1)], both + [entry]), False)

    def test_touched(self):
        self.assertEqual(touched(system_of(UP, DOWN)), [])
        self.assertEqual(touched(system_of(UP, READ_WRITE, DOWN, LOOSE)), [1, 3])
        self.assertEqual(touched(greatest_system()), [])

    def test_if_every_template_has_a_gate_nothing_can_be_stuck(self):
        chance = random.Random(91)
        stuck = 0
        for _ in range(200):
            system = any_system(chance, 3, 2, (3, 5, 2))
            gates = [one for one in changes(system) if one[0] == "gate"]
            if len(gates) == len(system[2]):
                self.assertIs(can_be_stuck(with_changes(system, gates)), False)
                stuck += can_be_stuck(system)
        self.assertGreater(stuck, 20)

    def test_swaps_wholes_and_single_gates_may_make_something_stuck(self):
        self.assertIs(can_be_stuck(with_changes(system_of(UP, ("b",) + UP[1:]), [("swap", 0, 0)])), True)
        behind = ("behind", (("p", "t"),), (), (("lock", "p", "x"), ("lock", "gates", "x")))
        other = ("other", (("p", "t"),), (), (("lock", "gates", "s"), ("lock", "p", "s"), ("lock", "gates", "x")))
        self.assertIs(can_be_stuck(system_of(behind, changed(other, 3, other[3][:1] + other[3][2:]), fixed=("gates",))), True)

    def test_more_than_twelve(self):
        four = tuple((param, "acc") for param in "pqrs")
        steps = tuple(("lock", param, "x") for param in "pqrs")
        system = (ONLY_X, (), (("a", four, (), steps),))
        self.assertEqual(least_remedy(system, {"order": 1}, 3), (3, [("order", 0, "p", "q"), ("order", 0, "q", "r"), ("order", 0, "r", "s")]))
        for call in (lambda: least_remedy(system, {"order": 1, "gate": 1}, 0), lambda: remedy_paper(system, {"order": 1, "gate": 1}, 1),
                     lambda: shows_least(system, {"order": 1, "gate": 1}, 1, [], 5)):
            self.raises(TooLarge, {"limit": 12}, call)
        self.raises(Mismatch, {"name": "changes"}, shows_least, system, {"order": 1, "gate": 1}, 1, 5, 5)

    def test_each_answer_is_always_the_same_and_new(self):
        system = system_of(LOOSE, READ_WRITE)
        prices = {"swap": 1, "whole": 2, "gate": 3}
        self.same_by_keyword(changes, system=system)
        self.same_by_keyword(with_changes, system=system, some=[("gate", 1), ("swap", 0, 0)])
        self.same_by_keyword(least_remedy, system=system, prices=prices, most=3)
        price, some, paper = self.same_by_keyword(remedy_paper, system=system, prices=prices, most=3)
        self.assertEqual((price, some), least_remedy(system, prices, 3))
        self.assertIs(self.same_by_keyword(shows_least, system=system, prices=prices, most=3, some=some, paper=paper), True)
        self.same_by_keyword(touched, system=system)


class Drawn(Case):

    def test_all_choices(self):
        chance = random.Random(92)
        seen = {}
        for _ in range(400):
            system = any_system(chance, 2, 1, (2, 4, 1))
            plain = PlainChanges(system)
            self.assertEqual(changes(system), plain.all)
            self.assertEqual(sorted(plain.all, key=plain.key), plain.all)
            if len(plain.all) > 12:
                continue
            prices = {word: chance.choice([1, 1, 2, 3, 1000]) for word in WORDS if chance.random() < 0.8}
            most = chance.randint(0, 3)
            for _, _, _, some, made in plain.choices({word: 1 for word in WORDS}, 2)[:20]:
                self.assertEqual(with_changes(system, some[::-1]), made)
            expected = plain.least(prices, most)
            self.assertEqual(least_remedy(system, prices, most), expected)
            found = remedy_paper(system, prices, most)
            self.assertEqual(found and found[:2], expected)
            size = None if found is None else len(found[1])
            seen[size] = seen.get(size, 0) + 1
            if found is not None:
                self.papers(chance, system, plain, (prices, most), found)
        for size in (None, 0, 1, 2):
            self.assertGreater(seen.get(size, 0), 2, seen)

    def papers(self, chance, system, plain, asked, found):
        prices, most = asked
        price, some, paper = found
        self.assertTrue(plain.is_paper(prices, most, price, paper))
        self.assertIs(shows_least(system, prices, most, some, paper), True)
        for place in range(len(paper)):
            less = paper[:place] + paper[place + 1:]
            self.assertIs(shows_least(system, prices, most, some, less), plain.is_paper(prices, most, price, less))
        for cost, _, _, other, made in plain.choices(prices, most)[:12]:
            expected = not can_be_stuck(made) and plain.is_paper(prices, most, cost, paper)
            self.assertIs(shows_least(system, prices, most, other, paper), expected)
        for part, ring in paper[:2]:
            for other in plain.all[:3]:
                entry = (part + [other], ring)
                shown = plain.is_paper(prices, most, price, paper + [entry])
                self.assertIs(shows_least(system, prices, most, some, paper + [entry]), shown)


class Errors(Case):

    def test_systems(self):
        calls = [
            lambda system: with_changes(system, 5), lambda system: least_remedy(system, 5, 5), changes, touched,
            lambda system: remedy_paper(most=5, prices=5, system=system), lambda system: shows_least(system, 5, 5, 5, 5),
        ]
        self.tells_no_system(calls)
        self.tells_no_rings([calls[0], changes, touched] + [
            lambda system: least_remedy(system, {}, 1), lambda system: remedy_paper(system, {}, 0),
            lambda system: shows_least(system, {}, 1, 5, 5),
        ])

    def test_prices_and_most(self):
        for system in (EXAMPLE, NO_RINGS[0]):
            calls = [
                lambda prices, most: least_remedy(system, prices, most), lambda prices, most: remedy_paper(system, prices, most),
                lambda prices, most: shows_least(system, prices, most, 5, 5),
            ]
            for call in calls:
                for value in [value for value in ODD if not isinstance(value, dict)] + [["swap"], nested(list, 100000)]:
                    self.raises(InvalidPrices, {"name": None}, call, value, 5)
                for place, word in enumerate(WORDS):
                    for value in [value for value in ODD if value != 99] + [0, 1001, -1]:
                        prices = {other: value for other in reversed(WORDS[place:])}
                        self.raises(InvalidPrices, {"name": word}, call, {**prices, **{other: 1 for other in WORDS[:place]}}, 5)
                for value in ODD + [4, -1]:
                    self.raises(InvalidNumber, {"name": "most"}, call, {"swap": 1, "gate": 1000, True: 5}, value)

    def test_what_is_no_changes(self):
        good = ("swap", 0, 0)
        wrong = ODD + [good, "swap", {good: 1}, [good, good], [("swap", 0, 1)], [("swap", 1, 0)], [("swap", False, 0)]]
        wrong += [[("swap", 0)], [("swap", 0, 0, 0)], [["swap", 0, 0]], [("swap", 0, "p")], [("whole", 0, 0)], [("gate", 1)]]
        wrong += [[("gate", 0, 0)], [("gate",)], [("gate", False)], [("order", 0, "p", "p")], [("order", 0, "p")], [("order", 0, "p", "z")]]
        wrong += [[("order", 0, "p", "q"), ("order", 0, "q", "p")], [("swap", 0, True)], [("swap", -1, 0)], [("swap", 0, -1)]]
        wrong += [[good, value] for value in ODD] + [[(value, 0, 0)] for value in ODD] + [[("swap", value, 0)] for value in ODD]
        wrong += [[("swap", 0, value)] for value in ODD] + [[("gate", value)] for value in ODD] + [nested(list, 100000)]
        wrong += [[("order", 0, value, "q")] for value in ODD] + [[("order", 0, "p", value)] for value in ODD]
        for value in [value for value in wrong if value != [] and value != ()]:
            self.raises(Mismatch, {"name": "changes"}, with_changes, EXAMPLE, value)
            self.raises(Mismatch, {"name": "changes"}, shows_least, EXAMPLE, {}, 0, value, [])


if __name__ == "__main__":
    unittest.main()
