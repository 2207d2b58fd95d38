"""Tables of up to six modes that are drawn, exact ones and such with one thing changed, and systems with them."""

import random
import unittest
from itertools import combinations, permutations, product

from brute import Plain
from chance import any_template
from samples import ODD
from stuckrows.errors import InvalidModes
from stuckrows.modes import check_modes, is_symmetric, joined, may_stand, standard
from stuckrows.templates import asked_at, check_system, held_at, positions

NAMES = ("a", "b", "c", "d", "e", "f", "is", "ix", "abcdefghijkl", "six")


def told(modes):
    """What the document says of modes, over all pairs and all triples; None or the first part that is wrong."""
    names, allowed, joins = modes
    if len(set(allowed)) < len(allowed):
        return "allowed"
    wanted = [{m, n} for m, n in combinations(names, 2)]
    if sorted(map(sorted, wanted)) != sorted(sorted(row[:2]) for row in joins):
        return "joins"
    if any(names.index(row[0]) > names.index(row[1]) for row in joins):
        return "joins"

    def join(m, n):
        return m if m == n else [row[2] for row in joins if set(row[:2]) == {m, n}][0]

    for m, n, k in product(names, repeat=3):
        if ((join(m, n), k) in allowed) != ((m, k) in allowed and (n, k) in allowed):
            return "exact"
        if ((k, join(m, n)) in allowed) != ((k, m) in allowed and (k, n) in allowed):
            return "exact"
        if len({join(join(x, y), z) for x, y, z in permutations((m, n, k))}) > 1:
            return "exact"
    return None


def exact_modes(chance, most):
    """Exact modes with at most so many names: sets of small things, of which some do not go together.

    The join is the union; what holds a thing does not allow what asks for one that does not go with it.
    """
    things = range(chance.choice([2, 3, 4]))
    against = [pair for pair in product(things, repeat=2) if chance.random() < chance.choice([0.0, 0.2, 0.5, 1.0])]
    sets = [frozenset(thing for thing in things if chance.random() < 0.5) for _ in range(chance.choice([1, 2, 3, 3, 4, 4, 5]))]
    while True:
        more = {one | other for one in sets for other in sets} - set(sets)
        if not more:
            break
        sets = sorted(set(sets) | more, key=sorted)
    sets = sorted(set(sets), key=sorted)
    if len(sets) > most:
        return exact_modes(chance, most)
    chance.shuffle(sets)
    name_of = dict(zip(sets, chance.sample(NAMES, len(sets))))
    allowed = [
        (name_of[held], name_of[asked]) for held, asked in product(sets, repeat=2)
        if not any(pair in against for pair in product(held, asked))
    ]
    joins = [(name_of[m], name_of[n], name_of[m | n]) for m, n in combinations(sets, 2)]
    if chance.random() < 0.5:
        chance.shuffle(allowed)
        chance.shuffle(joins)
    return (tuple(name_of[one] for one in sets), tuple(allowed), tuple(joins))


def with_pair_changed(modes):
    """All modes with one pair more or less."""
    names, allowed, joins = modes
    for pair in product(names, repeat=2):
        others = tuple(row for row in allowed if row != pair)
        yield (names, others if pair in allowed else allowed + (pair,), joins)


def with_join_changed(modes):
    """All modes with one join that is another one."""
    names, allowed, joins = modes
    for place, (m, n, join) in enumerate(joins):
        for other in names:
            if other != join:
                yield (names, allowed, joins[:place] + ((m, n, other),) + joins[place + 1:])


def with_row_wrong(modes):
    """Modes with a row too many, one too few, or one told the other way round."""
    names, allowed, joins = modes
    for row in allowed[:2]:
        yield (names, allowed + (row,), joins)
    for row in joins[:3]:
        yield (names, allowed, joins + (row,))
        yield (names, allowed, tuple(one for one in joins if one != row))
        yield (names, allowed, tuple(one if one != row else (row[1], row[0], row[2]) for one in joins))
        yield (names, allowed, tuple(one if one != row else joins[-1] for one in joins))
        yield (names, allowed, tuple(one if one != row else joins[-1][:2] + (names[0],) for one in joins))
        yield (names, allowed, joins + ((row[0], row[0], row[0]),))


class Drawn(unittest.TestCase):

    def test_exact_modes(self):
        chance = random.Random(41)
        sizes = {}
        for _ in range(600):
            modes = exact_modes(chance, 6)
            self.assertIsNone(told(modes), modes)
            self.assertIsNone(check_modes(modes), modes)
            sizes[len(modes[0])] = sizes.get(len(modes[0]), 0) + 1
        self.assertEqual(sorted(sizes), [1, 2, 3, 4, 5, 6])
        self.assertGreater(min(sizes.values()), 15, sizes)

    def test_one_thing_changed(self):
        chance = random.Random(42)
        found = {}
        for _ in range(70):
            modes = exact_modes(chance, 6)
            for change in (with_pair_changed, with_join_changed, with_row_wrong):
                rows = list(change(modes))
                for other in chance.sample(rows, min(len(rows), 14)):
                    wanted = told(other)
                    self.assertEqual(check_modes(other), wanted, other)
                    found[change.__name__, wanted] = found.get((change.__name__, wanted), 0) + 1
        # Of many a kind: some changes leave the modes exact.
        for key in (
            ("with_pair_changed", None), ("with_pair_changed", "exact"), ("with_join_changed", None),
            ("with_join_changed", "exact"), ("with_row_wrong", "allowed"), ("with_row_wrong", "joins"),
        ):
            self.assertGreater(found[key], 5, key)

    def test_all_changes_of_the_usual_modes(self):
        for change in (with_pair_changed, with_join_changed, with_row_wrong):
            for other in change(standard()):
                self.assertEqual(check_modes(other), told(other))

    def test_modes_that_tell_the_same(self):
        # Where all or nothing is allowed, only the order of joins can be wrong.
        chance = random.Random(43)
        found = set()
        for _ in range(400):
            names = NAMES[:chance.randint(2, 6)]
            allowed = tuple(product(names, repeat=2)) if chance.random() < 0.5 else ()
            joins = [(m, n, n if chance.random() < 0.8 else chance.choice(names)) for m, n in combinations(names, 2)]
            modes = (names, allowed, tuple(joins))
            self.assertEqual(check_modes(modes), told(modes))
            found.add((len(names), told(modes)))
        self.assertGreater(len(found), 8)

    def test_small_tables_of_all_kinds(self):
        chance = random.Random(44)
        for _ in range(1500):
            names = NAMES[:chance.randint(1, 4)]
            allowed = tuple(pair for pair in product(names, repeat=2) if chance.random() < 0.4)
            joins = tuple((m, n, chance.choice(names)) for m, n in combinations(names, 2))
            self.assertEqual(check_modes((names, allowed, joins)), told((names, allowed, joins)))

    def test_odd_values_in_each_place(self):
        chance = random.Random(45)
        for _ in range(12):
            names, allowed, joins = exact_modes(chance, 6)
            for value in ODD:
                for place in range(len(names)):
                    other = names[:place] + (value,) + names[place + 1:]
                    self.assertEqual(check_modes((other, allowed, joins)), "names")
                for row in ((value, names[0]), (names[0], value), value, (names[0], value, names[0])):
                    self.assertEqual(check_modes((names, allowed + (row,), joins)), "allowed")
                for place, row in enumerate(joins):
                    for at in range(3):
                        other = row[:at] + (value,) + row[at + 1:]
                        self.assertEqual(check_modes((names, allowed, joins[:place] + (other,))), "joins")
                        self.assertEqual(check_modes((names, allowed, joins[:place] + (value,))), "joins")


class WithDrawnModes(unittest.TestCase):

    def test_what_modes_tell(self):
        chance = random.Random(46)
        for _ in range(150):
            modes = exact_modes(chance, 6)
            names, allowed, _ = modes
            plain = Plain((modes, (), ()))
            self.assertIs(is_symmetric(modes), all((n, m) in allowed for m, n in allowed))
            some = [chance.choice(names) for _ in range(chance.randint(0, 5))]
            held = None
            for mode in some:
                held = plain.join(held, mode)
            self.assertEqual(joined(modes, some), held)
            pairs = [(some[at], some[place]) for place in range(len(some)) for at in range(place)]
            self.assertIs(may_stand(modes, tuple(some)), all(pair in allowed for pair in pairs))

    def test_what_systems_tell(self):
        chance = random.Random(47)
        for _ in range(80):
            modes = exact_modes(chance, 6)
            templates = []
            while len(templates) < 3:
                template = any_template(chance, "abc"[len(templates)], modes, ("f",), (3, 6, 2))
                if template[3]:
                    templates.append(template)
            system = (modes, ("f",), tuple(templates))
            self.assertIsNone(check_system(system))
            plain = Plain(system)
            self.assertEqual(positions(system), plain.positions())
            for template, (_, _, _, steps) in enumerate(templates):
                for step in range(len(steps)):
                    self.assertEqual(held_at(system, template, step), plain.holds_before(template, step)[0])
                    self.assertEqual(asked_at(system, template, step), plain.asked(template, step))
            wrong = list(with_pair_changed(modes))[0]
            if told(wrong) == "exact":
                with self.assertRaises(InvalidModes) as caught:
                    check_system((wrong, 5, 5))
                self.assertEqual(caught.exception.part, "exact")


if __name__ == "__main__":
    unittest.main()
