"""Drawn systems with one thing changed, or several, and what the document's words, from the front to the back, say."""

import random
import unittest

from chance import ALL_MODES, any_system
from samples import ODD, ONLY_X, READ_WRITE, TWO, UP, changed, greatest_system
from stuckrows.errors import InvalidInstances, InvalidModes, InvalidSchedule, InvalidSystem, InvalidTemplate
from stuckrows.modes import check_modes, standard
from stuckrows.runs import outcomes, play, stuck_behind
from stuckrows.templates import asked_at, check_system, held_at, lesser, positions
from stuckrows.texts import read_system, system_text
from test_modes_drawn import exact_modes, told as told_of_modes

LETTERS = set("abcdefghijklmnopqrstuvwxyz")
STRANGE = ["", "x" * 13, "x" * 12, "X", "aB", "a b", "a1", "\u00e9", "\u0430", "ab\n", "_", "lock", "free", "x", "p", "t", "gate"]


def is_name(value):
    return type(value) is str and 1 <= len(value) <= 12 and set(value) <= LETTERS


def is_one_of(value, names):
    return type(value) is str and value in names


def modes_fault(modes):
    """What InvalidModes tells of a value, None if it is modes."""
    if type(modes) is not tuple or len(modes) != 3:
        return "form"
    names, allowed, joins = modes
    if type(names) is not tuple or not 1 <= len(names) <= 6 or not all(map(is_name, names)) or len(set(names)) < len(names):
        return "names"
    if type(allowed) is not tuple:
        return "allowed"
    for row in allowed:
        if type(row) is not tuple or len(row) != 2 or not all(is_one_of(mode, names) for mode in row):
            return "allowed"
    if len(set(allowed)) < len(allowed):
        return "allowed"
    if type(joins) is not tuple:
        return "joins"
    for row in joins:
        if type(row) is not tuple or len(row) != 3 or not all(is_one_of(mode, names) for mode in row):
            return "joins"
    return told_of_modes(modes)


def form_fault(template, fixed, taken):
    """Whether something but its steps is wrong with a template."""
    if type(template) is not tuple or len(template) != 4:
        return True
    name, params, orders, steps = template
    if not is_name(name) or name in taken or type(params) is not tuple or len(params) > 4:
        return True
    tables = {}
    for pair in params:
        if type(pair) is not tuple or len(pair) != 2 or not is_name(pair[0]) or not is_name(pair[1]):
            return True
        if pair[0] in tables or pair[0] in fixed:
            return True
        tables[pair[0]] = pair[1]
    if type(orders) is not tuple:
        return True
    for pair in orders:
        if type(pair) is not tuple or len(pair) != 2 or not all(is_one_of(param, tables) for param in pair):
            return True
        if tables[pair[0]] != tables[pair[1]]:
            return True
    for param in tables:
        # All that a row of orders leads to from this param.
        seen, todo = set(), [param]
        while todo:
            low = todo.pop()
            more = [other for one, other in orders if one == low and other not in seen]
            seen.update(more)
            todo += more
        if param in seen:
            return True
    return type(steps) is not tuple or not 1 <= len(steps) <= 8


def step_fault(template, fixed, names):
    """The place of the first wrong step, None if there is none."""
    items = [param for param, _ in template[1]] + list(fixed)
    for place, step in enumerate(template[3]):
        before = template[3][:place]
        if type(step) is not tuple or len(step) < 2 or not is_one_of(step[1], items):
            return place
        was_freed = ("free", step[1]) in before
        was_locked = any(other[1] == step[1] for other in before)
        if is_one_of(step[0], ["lock"]) and len(step) == 3 and is_one_of(step[2], names) and not was_freed:
            continue
        if is_one_of(step[0], ["free"]) and len(step) == 2 and was_locked and not was_freed:
            continue
        return place
    return None


def fault(system):
    """The class of the error of a value and what it carries, None if it is a system."""
    if type(system) is not tuple or len(system) != 3:
        return (InvalidSystem, {"part": "form"})
    modes, fixed, templates = system
    part = modes_fault(modes)
    if part is not None:
        return (InvalidModes, {"part": part})
    if type(fixed) is not tuple or len(fixed) > 4 or not all(map(is_name, fixed)) or len(set(fixed)) < len(fixed):
        return (InvalidSystem, {"part": "fixed"})
    if type(templates) is not tuple or not 1 <= len(templates) <= 6:
        return (InvalidSystem, {"part": "templates"})
    taken = []
    for index, template in enumerate(templates):
        if form_fault(template, fixed, taken):
            return (InvalidTemplate, {"template": index, "step": -1})
        place = step_fault(template, fixed, modes[0])
        if place is not None:
            return (InvalidTemplate, {"template": index, "step": place})
        taken.append(template[0])
    return None


def places_in(value, way=()):
    """The ways to all that a value is made of, by places in tuples, as deep as a system is."""
    found = [way]
    if type(value) is tuple and len(way) < 6:
        for place, entry in enumerate(value):
            found += places_in(entry, way + (place,))
    return found


def at(value, way):
    for place in way:
        value = value[place]
    return value


def with_other(value, way, other):
    """The value with another thing at the end of a way."""
    if not way:
        return other
    return changed(value, way[0], with_other(value[way[0]], way[1:], other))


def other_for(chance, system, old):
    """Something to stand in the place of something."""
    words = [entry for entry in map(lambda way: at(system, way), places_in(system)) if type(entry) is str]
    kind = chance.random()
    if type(old) is tuple and kind < 0.6:
        place = chance.randrange(len(old)) if old else 0
        return chance.choice([
            list(old), old[:place] + old[place + 1:], old + old[place:place + 1], old[::-1], old + (chance.choice(ODD),),
            old[:place] + old[place:place + 1] + old[place:], (), old[0] if old else "x", {entry: 1 for entry in "ab"}, old * 2,
        ])
    if kind < 0.75:
        return chance.choice(words)
    return chance.choice(STRANGE) if kind < 0.85 else chance.choice(ODD)


def told_at_front(system):
    """What the functions that take a system raise first."""
    return [
        lambda: check_system(system), lambda: positions(system=system), lambda: held_at(system, -1, -1),
        lambda: asked_at(system, None, None), lambda: lesser(system, []), lambda: system_text(system),
        lambda: play(system, 5, 5), lambda: outcomes(system, None),
    ]


class Systems(unittest.TestCase):

    def raises(self, error, values, call):
        with self.assertRaises(error) as caught:
            call()
        self.assertIs(type(caught.exception), error)
        self.assertEqual({name: getattr(caught.exception, name) for name in values}, values)

    def compare(self, chance, system):
        """Compares what check_system and another function say; returns the error that is due."""
        due = fault(system)
        calls = told_at_front(system)
        if due is None:
            self.assertIsNone(check_system(system))
            self.assertEqual(read_system(system_text(system)), system)
            return None
        for call in (calls[0], chance.choice(calls)):
            self.raises(due[0], due[1], call)
        return due

    def draw(self, chance):
        if chance.random() < 0.03:
            return greatest_system()
        modes, fixed, templates = any_system(chance, 3, 3, (4, 6, 2))
        if chance.random() < 0.3:
            drawn = exact_modes(chance, 6)
            names = dict(zip(modes[0], drawn[0] * 6))
            modes = drawn
            templates = tuple(one[:3] + (tuple(
                step if len(step) == 2 else step[:2] + (names[step[2]],) for step in one[3]),) for one in templates)
        return (modes, fixed, templates)

    def test_one_thing_changed(self):
        chance = random.Random(171)
        seen = {}
        for _ in range(1600):
            system = self.draw(chance)
            way = chance.choice(places_in(system)[1:])
            wrong = with_other(system, way, other_for(chance, system, at(system, way)))
            due = self.compare(chance, wrong)
            key = None if due is None else (due[0].__name__,) + tuple(due[1].values())[-1:]
            seen[key] = seen.get(key, 0) + 1
        for part in ("names", "allowed", "joins", "exact", "form"):
            self.assertGreater(seen.get(("InvalidModes", part), 0), 8, seen)
        for key in [None, ("InvalidSystem", "fixed"), ("InvalidSystem", "templates")] + [("InvalidTemplate", at) for at in range(-1, 6)]:
            self.assertGreater(seen.get(key, 0), 5, (key, seen))

    def test_several_things_changed(self):
        chance = random.Random(172)
        seen = set()
        for _ in range(1000):
            system = self.draw(chance)
            for _ in range(chance.randint(2, 4)):
                # More often something in the templates than in the modes.
                ways = [way for way in places_in(system) if way and (way[0] == 2 or chance.random() < 0.2)]
                if ways:
                    way = chance.choice(ways)
                    system = with_other(system, way, other_for(chance, system, at(system, way)))
            due = self.compare(chance, system)
            seen.add(None if due is None else (due[0].__name__,) + tuple(due[1].values()))
        self.assertGreater(len(seen), 25)

    def test_the_same_word_in_another_place(self):
        chance = random.Random(173)
        valid = 0
        for _ in range(1000):
            system = self.draw(chance)
            ways = [way for way in places_in(system) if type(at(system, way)) is str]
            first, other = chance.choice(ways), chance.choice(ways)
            valid += self.compare(chance, with_other(system, first, at(system, other))) is None
        self.assertGreater(valid, 200)

    def test_names_of_all_lengths(self):
        for length in range(0, 15):
            for letter in ("a", "z", "A", "\u00e9", "0", " "):
                word = letter * length
                for way in ((1, 0), (2, 0, 0), (2, 0, 1, 0, 1), (2, 1, 1, 0, 1)):
                    system = (TWO, ("f",), (UP, READ_WRITE))
                    self.compare(random.Random(length), with_other(system, way, word))
                modes = ((word, "x"), (), ((word, "x", "x"),))
                due = fault((modes, (), (("a", (), (), (("lock", "f", "x"),)),)))
                self.assertEqual(check_modes(modes), due[1]["part"] if due[0] is InvalidModes else None)

    def test_one_more_than_there_may_be(self):
        words = ["abcdefg"[:count] for count in range(8)]
        for count, names in enumerate(words):
            # A chain of modes that allow nothing.
            joins = tuple((m, n, n) for at, n in enumerate(names) for m in names[:at])
            modes = (tuple(names), (), joins)
            lock = (("lock", "f", names[-1] if names else "a"),)
            system = (modes, ("f",), (("t", (), (), lock),))
            self.assertEqual(fault(system), None if 0 < count < 7 else (InvalidModes, {"part": "names"}))
            self.compare(random.Random(0), system)
            fixed = (TWO, tuple(names), (("t", (("p", "t"),), (), (("lock", "p", "x"),)),))
            self.assertEqual(fault(fixed), None if count < 5 else (InvalidSystem, {"part": "fixed"}))
            self.compare(random.Random(0), fixed)
            many = (TWO, ("f",), tuple((name, (), (), (("lock", "f", "s"),)) for name in names))
            self.assertEqual(fault(many), None if 0 < count < 7 else (InvalidSystem, {"part": "templates"}))
            self.compare(random.Random(0), many)
            params = (TWO, ("f",), (("t", tuple((name, "t") for name in names if name != "f"), (), (("lock", "f", "s"),)),))
            self.assertEqual(fault(params), None if count < 5 else (InvalidTemplate, {"template": 0, "step": -1}))
            self.compare(random.Random(0), params)
        for count in range(10):
            steps = (TWO, ("f",), (UP, ("t", (), (), (("lock", "f", "s"),) * count)))
            self.assertEqual(fault(steps), None if 0 < count < 9 else (InvalidTemplate, {"template": 1, "step": -1}))
            self.compare(random.Random(0), steps)

    def test_modes_that_many_systems_have(self):
        chance = random.Random(174)
        for modes in [TWO, standard(), ONLY_X] + ALL_MODES[:20]:
            self.assertIsNone(check_modes(modes))
            for _ in range(120):
                way = chance.choice(places_in(modes))
                wrong = with_other(modes, way, other_for(chance, (modes, (), ()), at(modes, way)))
                self.assertEqual(check_modes(wrong), modes_fault(wrong))


class Instances(unittest.TestCase):
    system = (TWO, ("f",), (UP, READ_WRITE, ("none", (), (), (("lock", "f", "x"),))))
    good = [(0, (1, 2)), (1, (5,)), (2, ()), (0, (-3, 10 ** 40)), (0, (1, 2))]

    def is_instance(self, entry):
        """What the document says of an instance."""
        if type(entry) is not tuple or len(entry) != 2 or type(entry[0]) is not int or not 0 <= entry[0] < 3:
            return False
        _, params, orders, _ = self.system[2][entry[0]]
        keys = entry[1]
        if type(keys) is not tuple or len(keys) != len(params) or not all(type(key) is int for key in keys):
            return False
        key_of = {param: key for (param, _), key in zip(params, keys)}
        return len(set(keys)) == len(keys) and all(key_of[low] < key_of[high] for low, high in orders)

    def test_instances_with_one_thing_changed(self):
        chance = random.Random(175)
        wrong = 0
        for _ in range(1500):
            some = tuple(chance.choice(self.good) for _ in range(chance.randint(1, 4)))
            for _ in range(chance.randint(1, 2)):
                way = chance.choice(places_in(some))
                if way:
                    old = at(some, way)
                    other = chance.choice(ODD) if chance.random() < 0.4 else chance.choice([0, 1, 2, 3, True, (1, 2), (2, 1), (1, 1), (5,), ()])
                    some = with_other(some, way, list(old) if type(old) is tuple and chance.random() < 0.2 else other)
            places = [place for place, entry in enumerate(some) if not self.is_instance(entry)]
            calls = [lambda: play(self.system, some, []), lambda: stuck_behind(self.system, list(some), ())]
            for call in calls:
                if not places:
                    call()
                    continue
                with self.assertRaises(InvalidInstances) as caught:
                    call()
                self.assertEqual(caught.exception.index, places[0])
            wrong += bool(places)
        self.assertGreater(wrong, 300)
        self.assertLess(wrong, 1400)

    def test_different_rows_of_different_tables_may_have_one_key(self):
        two = ("two", (("p", "t"), ("q", "u"), ("r", "t")), (("p", "r"),), (("lock", "p", "x"),))
        for keys, good in (((1, 1, 2), True), ((1, 2, 2), True), ((1, 1, 1), False), ((2, 2, 1), False), ((1, 2, 1), False)):
            if good:
                self.assertEqual(play((ONLY_X, (), (two,)), [(0, keys)], []), [(0, "ready", [])])
            else:
                with self.assertRaises(InvalidInstances):
                    play((ONLY_X, (), (two,)), [(0, keys)], [])

    def test_lists_of_turns(self):
        chance = random.Random(176)
        some = self.good[:3]
        for _ in range(800):
            done, schedule = [0, 0, 0], []
            place = None
            for step in range(chance.randint(0, 9)):
                index = chance.choice([0, 1, 2, 0, 1, 2, 3, -1, chance.choice(ODD)])
                schedule.append(index)
                # None of them waits for another one: so it has a turn until it has ended.
                fits = type(index) is int and 0 <= index < 3 and done[index] <= len(self.system[2][some[index][0]][3])
                if not fits:
                    place = step
                    break
                done[index] += 1
            schedule += [chance.choice([0, None])] if place is not None else []
            if place is None:
                self.assertEqual([row[0] for row in play(self.system, some, tuple(schedule))], done)
            else:
                with self.assertRaises(InvalidSchedule) as caught:
                    stuck_behind(self.system, some, schedule)
                self.assertEqual(caught.exception.index, place)


if __name__ == "__main__":
    unittest.main()
