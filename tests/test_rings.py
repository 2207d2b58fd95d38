import copy
import unittest

from brute import Plain
from lockplay import behind
from samples import (
    DOWN, LOCK_PQ, LOOSE, ODD, ONE_WAY, ONLY_S, ONLY_X, PAIR, READ_WRITE, TWO, UP, greatest_system, system_of,
)
from stuckrows.errors import InvalidModes, InvalidSystem, InvalidTemplate, Mismatch
from stuckrows.modes import standard
from stuckrows.rings import can_be_stuck, fewest, ring_schedule, shortest_ring, shows_ring
from stuckrows.templates import positions

READERS = (TWO, (), (READ_WRITE,))


def gated(template, gate, mode="x"):
    """The template, with another name, that locks a fixed item ahead of all its steps."""
    name, params, orders, steps = template
    return ("g" + name, params, orders, (("lock", gate, mode),) + steps)


def steps_of(*rows):
    """Lock steps from items and modes."""
    return tuple(("lock", item, mode) for item, mode in rows)


class RingCase(unittest.TestCase):

    def is_stuck_by(self, system, ring):
        """Behind the schedule of a ring all of its members are stuck, each at its position."""
        instances, schedule = ring_schedule(system, ring)
        self.assertEqual(instances, [(template, keys) for template, _, keys in ring])
        self.assertIs(type(schedule), list)
        run = behind(system, instances, schedule)
        self.assertEqual(run.table.stuck(), set(range(len(ring))))
        self.assertEqual(run.done, [step for _, step, _ in ring])

    def has_ring(self, system, count):
        """So many members a shortest ring has, and it is one; None: there is no ring."""
        ring = shortest_ring(system)
        self.assertEqual(fewest(system), count)
        self.assertIs(can_be_stuck(system), count is not None)
        self.assertEqual(shortest_ring(system), ring)
        if count is None:
            self.assertIsNone(ring)
            return
        self.assertIs(type(ring), list)
        self.assertEqual(len(ring), count)
        self.assertIs(shows_ring(system, ring), True)
        self.assertIs(shows_ring(system, tuple(ring)), True)
        self.assertTrue(Plain(system).is_ring(ring))
        for turned in (ring, tuple(ring), ring[1:] + ring[:1]):
            self.is_stuck_by(system, turned)


class Facts(RingCase):

    def test_examples(self):
        self.assertEqual([fewest((TWO, (), (UP,))), fewest((TWO, (), (UP, DOWN)))], [None, 2])
        told = [shows_ring(READERS, [(0, 1, (7,)), (0, 1, (7,))]), shows_ring(READERS, [(0, 1, (7,)), (0, 1, (8,))])]
        self.assertEqual(told, [True, False])

    def test_two_readers_that_both_want_to_write(self):
        self.has_ring(READERS, 2)
        self.has_ring((ONLY_X, (), (("a", (("p", "t"),), (), steps_of(("p", "x"), ("p", "x"))),)), None)
        # A reader that tells at once that it wants to write.
        upgrade = ("a", (("p", "t"),), (), steps_of(("p", "u"), ("p", "x")))
        self.has_ring((standard(), (), (upgrade,)), None)

    def test_ascending_descending_and_unlike_keys(self):
        self.has_ring(system_of(UP), None)
        self.has_ring(system_of(DOWN), None)
        self.has_ring(system_of(UP, DOWN), 2)
        self.has_ring(system_of(LOOSE), 2)
        self.has_ring(system_of(UP, LOOSE), 2)

    def test_orders_that_are_told_by_way_of_others(self):
        three = (("p", "t"), ("q", "t"), ("r", "t"))
        steps = steps_of(("p", "x"), ("r", "x"))
        self.has_ring(system_of(("a", three, (("p", "q"), ("q", "r")), steps)), None)
        self.has_ring(system_of(("a", three, (("p", "q"), ("q", "r"), ("p", "q")), steps)), None)
        self.has_ring(system_of(("a", three, (("p", "q"),), steps)), 2)

    def test_several_instances_of_one_template(self):
        up = ("up", PAIR, (("p", "q"),), steps_of(("p", "x"), ("q", "s")))
        other = ("other", PAIR, (), steps_of(("p", "s"), ("q", "s")))
        self.has_ring(system_of(up), None)
        self.has_ring(system_of(other), None)
        self.has_ring(system_of(up, other), 3)
        self.assertEqual(sorted(member[0] for member in shortest_ring(system_of(up, other))), [0, 0, 1])

    def test_a_single_member_takes_two_keys_and_all_others_the_same_one_twice(self):
        # Behind the gates each of them stands in a ring once.
        fixed = ("f", "g", "h")
        unlike = ("unlike", PAIR, (), steps_of(("p", "s"), ("q", "x")))
        twice = gated(("twice", (("p", "acc"),), (), steps_of(("p", "s"), ("p", "x"))), "g")
        self.has_ring(system_of(gated(unlike, "f"), twice, fixed=fixed), None)
        self.has_ring(system_of(gated(unlike, "f"), gated(("two",) + unlike[1:], "h"), twice, fixed=fixed), 2)
        self.has_ring(system_of(unlike, twice, fixed=fixed), 2)

    def test_a_single_member_takes_two_keys_and_the_other_ones_ascending_ones(self):
        unlike = gated(("unlike", PAIR, (), LOCK_PQ), "f")
        up = gated(UP, "g")
        self.has_ring(system_of(unlike, fixed=("f",)), None)
        self.has_ring(system_of(unlike, up, fixed=("f", "g")), 2)

    def test_a_mode_that_does_not_allow_itself_stands_once(self):
        self.has_ring(system_of(gated(LOOSE, "f"), fixed=("f",)), None)
        self.has_ring(system_of(gated(LOOSE, "f", "s"), fixed=("f",)), 2)
        self.has_ring(system_of(gated(LOOSE, "f"), LOOSE, fixed=("f",)), 2)
        self.has_ring(system_of(gated(UP, "f"), gated(DOWN, "f"), fixed=("f",)), None)
        self.has_ring(system_of(gated(UP, "f"), gated(DOWN, "g"), fixed=("f", "g")), 2)
        # The ring of readers and writers needs two writers.
        writer = ("w", (("p", "t"),), (), steps_of(("p", "x")))
        reader = ("r", (("p", "t"), ("q", "t")), (), steps_of(("p", "s"), ("q", "s")))
        self.has_ring(system_of(reader, writer), 4)
        self.has_ring(system_of(reader, gated(writer, "f"), fixed=("f",)), None)
        self.has_ring(system_of(reader, gated(writer, "f", "s"), fixed=("f",)), 4)
        self.has_ring(system_of(reader, gated(writer, "f"), writer, fixed=("f",)), 4)

    def test_a_gate_that_stands_behind_the_first_row(self):
        late = ("late", PAIR, (), steps_of(("p", "x"), ("f", "x"), ("q", "x")))
        self.has_ring(system_of(late, fixed=("f",)), 2)
        early = ("early", PAIR, (), steps_of(("f", "x"), ("p", "x"), ("q", "x")))
        self.has_ring(system_of(early, late, fixed=("f",)), 2)
        self.has_ring(system_of(early, fixed=("f",)), None)

    def test_a_gate_locked_in_a_mode_that_is_raised_later(self):
        steps = steps_of(("f", "s"), ("p", "x"), ("f", "x"))
        self.has_ring(system_of(("a", PAIR, (), steps), fixed=("f",)), 2)
        steps = steps_of(("f", "u"), ("p", "x"), ("f", "x"), ("q", "x"))
        self.has_ring((standard(), ("f",), (("a", PAIR, (), steps),)), None)
        self.has_ring((standard(), ("f",), (("a", PAIR, (), steps), READ_WRITE)), 2)


class Queues(RingCase):

    def test_a_waiter_in_the_queue_closes_a_ring(self):
        writer = ("w", (("p", "t"),), (), steps_of(("p", "x")))
        reader = ("r", (("p", "t"), ("q", "t")), (), steps_of(("p", "s"), ("q", "s")))
        self.has_ring(system_of(reader), None)
        self.has_ring(system_of(writer), None)
        self.has_ring(system_of(reader, writer), 4)
        self.assertEqual(sorted(member[0] for member in shortest_ring(system_of(reader, writer))), [0, 0, 1, 1])

    def test_all_waiting_behind_one_another_is_no_ring(self):
        one = ("a", (("p", "t"),), (), steps_of(("p", "x")))
        self.has_ring(system_of(one), None)
        self.assertIs(shows_ring(system_of(one), [(0, 0, (1,)), (0, 0, (1,))]), False)

    def test_a_conversion_waits_behind_nobody(self):
        # The second one wants to write what both read; the first one only asks for what all may have.
        system = (standard(), (), (("a", (("p", "t"),), (), steps_of(("p", "is"), ("p", "s"), ("p", "u"))),))
        self.has_ring(system, None)
        self.assertIs(shows_ring(system, [(0, 1, (0,)), (0, 2, (0,))]), False)

    def test_a_reader_waits_behind_a_conversion(self):
        # The conversion is not in the queue, but who asks anew waits behind it.
        raising = ("raising", (("p", "t"),), (), steps_of(("p", "s"), ("p", "x")))
        reader = ("reader", (("p", "t"), ("q", "t")), (), steps_of(("q", "s"), ("p", "s")))
        self.has_ring(system_of(reader), None)
        self.has_ring(system_of(reader, gated(raising, "f"), fixed=("f",)), None)
        system = system_of(reader, raising)
        ring = [(1, 1, (1,)), (0, 1, (2, 1)), (1, 1, (2,)), (0, 1, (1, 2))]
        self.assertIs(shows_ring(system, ring), True)
        self.is_stuck_by(system, ring)
        self.assertIs(shows_ring(system, [ring[0], ring[3], ring[1], ring[2]]), False)

    def test_a_longer_ring_with_several_in_one_queue(self):
        system = system_of(LOOSE, ("w", (("p", "acc"),), (), steps_of(("p", "x"))))
        ring = [(0, 1, (1, 2)), (1, 0, (2,)), (1, 0, (2,)), (0, 1, (2, 3)), (1, 0, (3,)), (0, 1, (3, 1)), (1, 0, (1,))]
        self.assertIs(shows_ring(system, ring), True)
        for turn in range(len(ring)):
            self.is_stuck_by(system, ring[turn:] + ring[:turn])


class Frees(RingCase):

    def test_what_was_freed_is_not_held(self):
        early = ("early", PAIR, (), LOCK_PQ[:1] + (("free", "p"),) + LOCK_PQ[1:])
        self.has_ring(system_of(early), None)
        self.has_ring(system_of(early, LOOSE), 2)
        self.assertEqual([member[0] for member in shortest_ring(system_of(early, LOOSE))], [1, 1])

    def test_no_member_has_freed_what_another_one_holds(self):
        params = (("p", "t"), ("q", "t"), ("r", "t"))
        steps = steps_of(("r", "s")) + (("free", "r"),) + steps_of(("p", "x"), ("q", "x"))
        system = system_of(("a", params, (), steps))
        self.has_ring(system, 2)
        self.assertIs(shows_ring(system, [(0, 3, (1, 2, 3)), (0, 3, (2, 1, 3))]), True)
        self.assertIs(shows_ring(system, [(0, 3, (1, 2, 3)), (0, 3, (2, 1, 4))]), True)
        # The first one has freed row 4; the third one holds it, in a mode that it would allow.
        ring = [(0, 3, (1, 2, 4)), (0, 3, (2, 3, 5)), (0, 3, (3, 1, 6))]
        self.assertIs(shows_ring(system, ring), True)
        holder = ("b", params, (), steps_of(("r", "s"), ("p", "x"), ("q", "x")))
        both = system_of(("a", params, (), steps), holder)
        self.assertIs(shows_ring(both, ring[:2] + [(1, 2, (3, 1, 6))]), True)
        self.assertIs(shows_ring(both, ring[:2] + [(1, 2, (3, 1, 4))]), False)
        # What a member asks for was not freed by it, but may have been by another one.
        self.assertIs(shows_ring(system, [(0, 3, (1, 2, 4)), (0, 3, (2, 1, 1))]), False)

    def test_freed_rows_are_needed_nowhere(self):
        steps = LOCK_PQ[:1] + (("lock", "r", "s"), ("free", "r")) + LOCK_PQ[1:]
        self.has_ring(system_of(("a", PAIR + (("r", "acc"),), (), steps)), 2)
        self.has_ring(system_of(("a", PAIR + (("r", "acc"),), (("p", "r"), ("r", "q")), steps)), None)


class Conversions(RingCase):

    def test_asking_for_nothing_more_is_no_position(self):
        system = system_of(("a", PAIR, (("p", "q"),), steps_of(("p", "x"), ("p", "s"), ("q", "x"), ("p", "x"))))
        self.assertEqual(positions(system), [(0, 0), (0, 2)])
        self.has_ring(system, None)
        self.assertIs(shows_ring(system, [(0, 1, (1, 2)), (0, 1, (1, 2))]), False)

    def test_conversions_at_a_fixed_item(self):
        system = system_of(("a", (), (), steps_of(("f", "s"), ("f", "x"))), fixed=("f",))
        self.has_ring(system, 2)
        self.assertEqual(shortest_ring(system), [(0, 1, ()), (0, 1, ())])

    def test_a_row_and_a_conversion_back(self):
        steps = steps_of(("q", "s"), ("p", "x"), ("q", "x"))
        self.has_ring(system_of(("a", PAIR, (("p", "q"),), steps)), 2)
        steps = steps_of(("q", "u"), ("p", "x"), ("q", "x"))
        self.has_ring((standard(), (), (("a", PAIR, (("p", "q"),), steps),)), None)

    def test_holds_at_the_same_row_must_allow_one_another(self):
        # a is held beside b and beside itself, b beside a only: two that hold b at the row cannot be.
        names, joins = ("a", "b", "t"), (("a", "b", "b"), ("a", "t", "t"), ("b", "t", "t"))
        modes = (names, (("a", "a"), ("a", "b"), ("b", "a")), joins)
        only_b = ("m", (("p", "t"),), (), steps_of(("p", "b"), ("p", "t")))
        only_a = ("n", (("p", "t"),), (), steps_of(("p", "a"), ("p", "t")))
        self.has_ring((modes, (), (only_b,)), None)
        self.has_ring((modes, (), (only_a,)), 2)
        self.assertIs(shows_ring((modes, (), (only_b,)), [(0, 1, (0,)), (0, 1, (0,))]), False)
        self.assertIs(shows_ring((modes, (), (only_a, only_b)), [(0, 1, (0,)), (1, 1, (0,))]), True)
        self.assertIs(shows_ring((modes, (), (only_a, only_b)), [(0, 1, (0,)), (1, 1, (0,)), (1, 1, (0,))]), False)


    def test_all_that_hold_one_row_must_go_together(self):
        # Each one of three waits for the next one, but the first and the third one cannot hold the same row.
        allows = {"a": ("a", "b", "ab"), "b": ("a", "c", "d"), "c": ("b",), "d": ("b",), "ab": ("a",), "t": ()}
        joins = (
            ("a", "b", "ab"), ("a", "c", "c"), ("a", "d", "d"), ("a", "ab", "ab"), ("a", "t", "t"), ("b", "c", "t"),
            ("b", "d", "t"), ("b", "ab", "ab"), ("b", "t", "t"), ("c", "d", "d"), ("c", "ab", "t"), ("c", "t", "t"),
            ("d", "ab", "t"), ("d", "t", "t"), ("ab", "t", "t"),
        )
        modes = (tuple(allows), tuple((held, asked) for held in allows for asked in allows[held]), joins)
        rows = [("one", "a", "ab"), ("two", "b", "ab"), ("three", "c", "d")]
        one_row = [(name, (("p", "t"),), (), steps_of(("p", held), ("p", asked))) for name, held, asked in rows]
        self.has_ring((modes, (), tuple(one_row)), None)
        fixed = [(name, (), (), steps_of(("f", held), ("f", asked))) for name, held, asked in rows]
        self.has_ring((modes, ("f",), tuple(fixed)), None)
        # The same where the ring goes on by way of another table.
        last = ("last", (("p", "t"), ("q", "u")), (), steps_of(("p", "c"), ("q", "t")))
        first = ("first", (("p", "t"), ("q", "u")), (), steps_of(("p", "a"), ("q", "t"), ("p", "ab")))
        self.has_ring((modes, (), (first, one_row[1], last)), None)
        self.has_ring((modes, (), (first, one_row[1], last[:3] + (steps_of(("p", "b"), ("q", "t")),))), 2)


class Ways(RingCase):

    def hopping(self, name, *hops, gate=None):
        """A template that for each hop holds a row of the first table alone and asks for one of the second."""
        params, steps = [], [("lock", gate, "x")] if gate else []
        for (here, there), held, asked in zip(hops, "pr", "qs"):
            params.extend([(held, here), (asked, there)])
            steps.extend([("lock", held, "x"), ("lock", asked, "x"), ("free", held), ("free", asked)])
        return (name, tuple(params), (), tuple(steps)[:8])

    def test_a_way_that_is_barred_further_on(self):
        # The second and the third one go with the first one, but not with one another.
        one, two, three = self.hopping("one", "ab"), self.hopping("two", "bc"), self.hopping("three", "ca")
        barred = self.hopping("two", "bc", gate="f"), self.hopping("three", "ca", gate="f")
        self.has_ring(system_of(one, two, three, fixed=("f",)), 3)
        self.has_ring(system_of(one, *barred, fixed=("f",)), None)
        self.has_ring(system_of(one, *barred, self.hopping("way", "cd", "da"), fixed=("f",)), 4)

    def test_a_shorter_ring_elsewhere(self):
        barred = self.hopping("two", "bc", gate="f"), self.hopping("three", "ca", gate="f")
        one, on = self.hopping("one", "ab"), self.hopping("on", "cd", "de")
        self.has_ring(system_of(one, *barred, on, self.hopping("back", "ea"), fixed=("f",)), 5)
        self.has_ring(system_of(one, *barred, on, self.hopping("back", "eb"), fixed=("f",)), 4)
        self.has_ring(system_of(one, *barred, on, self.hopping("back", "ea", "eb"), fixed=("f",)), 4)
        self.has_ring(system_of(one, *barred, on, self.hopping("back", "ea", "ec"), fixed=("f",)), 3)

    def test_a_long_way_through_twelve_tables(self):
        tables = "abcdefghijkla"
        hops = [tables[place:place + 2] for place in range(12)]
        templates = [self.hopping(hops[place][0], *hops[place:place + 2]) for place in range(0, 12, 2)]
        self.has_ring(system_of(*templates), 12)
        self.has_ring(system_of(*templates[1:]), None)
        self.has_ring(system_of(*templates[:5], self.hopping("k", "kl")), None)


class Directions(RingCase):

    def crowd(self, orders):
        """Three templates that wait for one another in one way only, with these orders of p and q.

        All locks but the first ones are conversions, so nobody waits behind anybody; and n, in
        which the first ones are held, hinders nobody. a and b forbid themselves alone.
        """
        names = ("n", "a", "b", "t")
        allowed = [(m, k) for m in names for k in names if "n" in (m, k) or (m, k) in (("a", "b"), ("b", "a"))]
        joins = (("n", "a", "a"), ("n", "b", "b"), ("n", "t", "t"), ("a", "b", "t"), ("a", "t", "t"), ("b", "t", "t"))
        templates = []
        for name, order, held, asked in zip(("one", "two", "three"), orders, "aab", "aba"):
            rows = [("q", "n"), ("p", "n"), ("p", held), ("q", asked)]
            templates.append((name, PAIR, (order,) if order else (), steps_of(*rows)))
        return ((names, tuple(allowed), joins), (), tuple(templates))

    def test_several_in_each_direction(self):
        up, down = ("p", "q"), ("q", "p")
        self.has_ring(self.crowd((up, down, down)), 3)
        self.has_ring(self.crowd((down, up, up)), 3)
        self.has_ring(self.crowd((up, up, up)), None)
        self.has_ring(self.crowd((down, down, down)), None)
        self.has_ring(self.crowd((up, down, up)), 2)
        self.has_ring(self.crowd((up, up, down)), 2)
        self.has_ring(self.crowd((None, down, down)), 2)
        self.has_ring(self.crowd((up, down, None)), 2)


class Greatest(RingCase):

    def test_greatest_systems(self):
        system = greatest_system()
        self.has_ring(system, None)
        modes, fixed, templates = system
        name, params, orders, steps = templates[5]
        self.has_ring((modes, fixed, templates[:5] + ((name, params, (), steps),)), 2)
        self.has_ring((modes, fixed, templates[:5] + ((name, params, orders, steps[::-1]),)), 2)

    def test_ascending_ones_with_all_gates(self):
        templates = []
        for letter in "abcdef":
            params = tuple((name, "t") for name in "pqrs")
            orders = (("p", "q"), ("q", "r"), ("r", "s"), ("p", "s"))
            rows = [(name, "ix") for name in "fghk"] + [(name, "x") for name in "pqrs"]
            templates.append((letter, params, orders, steps_of(*rows)))
        self.has_ring((standard(), tuple("fghk"), tuple(templates)), None)
        # The last one takes its rows in the other order, but a gate keeps it alone.
        rows = [("f", "x"), ("s", "x"), ("r", "x"), ("q", "x"), ("p", "x")]
        alone = ("z", templates[0][1], templates[0][2], steps_of(*rows))
        self.has_ring((standard(), tuple("fghk"), tuple(templates[:5]) + (alone,)), None)
        free = ("z", templates[0][1], templates[0][2], steps_of(*rows[1:]))
        self.has_ring((standard(), tuple("fghk"), tuple(templates[:5]) + (free,)), 2)

    def test_a_long_ring_through_many_tables(self):
        tables = "abcdefghijkl"
        for count in (2, 3, 4, 5, 6):
            templates = []
            for place in range(count):
                params = (("p", tables[place]), ("q", tables[(place + 1) % count]))
                templates.append((tables[place], params, (), LOCK_PQ))
            self.has_ring(system_of(*templates), count)
            self.has_ring(system_of(*templates[1:]), None)

    def test_a_ring_of_readers_and_writers_through_three_tables(self):
        # In each table a reader waits behind a writer, and the writer for the next reader.
        readers, writers = [], []
        for table, other in ("ab", "bc", "ca"):
            readers.append((table, (("p", table), ("q", other)), (), steps_of(("p", "s"), ("q", "s"))))
            writers.append(("w" + table, (("p", table),), (), steps_of(("p", "x"))))
        self.has_ring(system_of(*readers), None)
        self.has_ring(system_of(*readers, *writers[1:]), None)
        self.has_ring(system_of(*readers, *writers), 6)

    def test_names_of_twelve_letters_and_far_keys(self):
        table, low, high = "tabletablett", "lowlowlowlow", "highhighhigh"
        steps = steps_of((low, "s"), (high, "x"))
        system = (TWO, (), (("nameofatempl", ((low, table), (high, table)), (), steps),))
        self.has_ring(system, 2)
        far = 10 ** 5000
        self.assertIs(shows_ring(system, [(0, 1, (far, -far)), (0, 1, (-far, far))]), True)
        self.is_stuck_by(system, [(0, 1, (far, -far)), (0, 1, (-far, far))])

    def test_one_mode(self):
        self.has_ring((ONLY_X, (), (LOOSE,)), 2)
        self.has_ring((ONLY_S, (), (("a", PAIR, (), steps_of(("p", "s"), ("q", "s"))),)), None)

    def test_no_params(self):
        there = ("there", (), (), steps_of(("f", "x"), ("g", "x")))
        back = ("back", (), (), steps_of(("g", "x"), ("f", "x")))
        self.has_ring(system_of(there, fixed=("f", "g")), None)
        self.has_ring(system_of(there, back, fixed=("f", "g")), 2)

    def test_a_fixed_item_is_no_row_of_a_table_of_its_name(self):
        template = ("a", (("p", "f"),), (), steps_of(("p", "x"), ("f", "x")))
        other = ("b", (("p", "f"),), (), steps_of(("f", "x"), ("p", "x")))
        self.has_ring(system_of(template, fixed=("f",)), None)
        self.has_ring(system_of(template, other, fixed=("f",)), 2)
        # Rows of different tables are different, also with the same key.
        there = ("a", (("p", "t"), ("q", "u")), (), LOCK_PQ)
        self.assertIs(shows_ring(system_of(there), [(0, 1, (1, 1)), (0, 1, (1, 1))]), False)
        self.has_ring(system_of(there), None)


class ShowsRing(RingCase):

    def test_other_values(self):
        system = system_of(LOOSE)
        ring = [(0, 1, (1, 2)), (0, 1, (2, 1))]
        self.assertIs(shows_ring(system, ring), True)
        self.assertIs(shows_ring(system=system, ring=tuple(ring)), True)
        for value in ODD + [[], ring[:1], {0: ring[0], 1: ring[1]}, ring[0], "ring"]:
            self.assertIs(shows_ring(system, value), False)
            self.assertIs(shows_ring(system, ring + [value]), False)
            self.assertIs(shows_ring(system, [ring[0], (value, 1, (2, 1))]), False)
            self.assertIs(shows_ring(system, [ring[0], (0, value, (2, 1))]), False)
            self.assertIs(shows_ring(system, [ring[0], (0, 1, value)]), False)
            self.assertIs(shows_ring(system, [ring[0], (0, 1, (value, 2 ** 200))]), False)

    def test_members_that_are_none(self):
        system = system_of(LOOSE, UP)
        first = (0, 1, (1, 2))
        self.assertIs(shows_ring(system, [first, (1, 1, (2, 1))]), False)
        wrong = [
            [0, 1, (2, 1)], (0, 1, [2, 1]), (0, 1), (0, 1, (2, 1), 0), (0, 1, (2,)), (0, 1, (2, 1, 0)), (2, 1, (2, 1)),
            (-1, 1, (2, 1)), (0, 2, (2, 1)), (0, -1, (2, 1)), (0, 1, (2, True)), (0, True, (2, 1)), (False, 1, (2, 1)),
            (0, 1, (2, 2)),
        ]
        for member in wrong:
            self.assertIs(shows_ring(system, [first, member]), False)
            self.assertIs(shows_ring(system, [member, first]), False)
        self.assertIs(shows_ring(system, [first, (0, 1, (2, 1))]), True)

    def test_bools_are_no_keys(self):
        self.assertIs(shows_ring(READERS, [(0, 1, (1,)), (0, 1, (True,))]), False)
        self.assertIs(shows_ring(READERS, [(0, 1, (0,)), (0, 1, (False,))]), False)

    def test_keys_of_one_table_differ_and_those_of_two_need_not(self):
        system = system_of(("a", PAIR + (("r", "other"),), (), LOCK_PQ))
        self.assertIs(shows_ring(system, [(0, 1, (1, 2, 1)), (0, 1, (2, 1, 1))]), True)
        system = system_of(("a", PAIR + (("r", "acc"),), (), LOCK_PQ))
        self.assertIs(shows_ring(system, [(0, 1, (1, 2, 1)), (0, 1, (2, 1, 3))]), False)

    def test_each_waits_for_the_next_one(self):
        system = system_of(LOOSE)
        members = [(0, 1, (1, 2)), (0, 1, (2, 3)), (0, 1, (3, 1))]
        self.assertIs(shows_ring(system, members), True)
        self.assertIs(shows_ring(system, members[::-1]), False)
        self.assertIs(shows_ring(system, members[:2]), False)
        self.assertIs(shows_ring(system, members + members), False)

    def test_many_equal_members(self):
        for count in (2, 3, 12, 13, 300):
            self.assertIs(shows_ring(READERS, [(0, 1, (5,))] * count), True)
        self.is_stuck_by(READERS, [(0, 1, (5,))] * 5)

    def test_members_that_do_not_wait_for_one_another_must_go_together_too(self):
        # All but the second and the fourth one wait for one another; these two hold a gate.
        gate = gated(LOOSE, "f")
        system = system_of(LOOSE, gate, fixed=("f",))
        ring = [(0, 1, (1, 2)), (1, 2, (2, 3)), (0, 1, (3, 4)), (1, 2, (4, 1))]
        self.assertIs(shows_ring(system, ring), False)
        self.assertIs(shows_ring(system, ring[:3] + [(0, 1, (4, 1))]), True)
        # The same with a row that both hold.
        third = ("third", PAIR + (("r", "acc"),), (), steps_of(("r", "x"), ("p", "x"), ("q", "x")))
        system = system_of(LOOSE, third)
        ring = [(0, 1, (1, 2)), (1, 2, (2, 3, 9)), (0, 1, (3, 4)), (1, 2, (4, 1, 8))]
        self.assertIs(shows_ring(system, ring), True)
        self.assertIs(shows_ring(system, ring[:3] + [(1, 2, (4, 1, 9))]), False)


class Errors(RingCase):

    def calls(self):
        """Each function that takes a system, with something for its other argument."""
        ring = [(0, 1, (1, 2)), (0, 1, (2, 1))]
        return [
            lambda system: can_be_stuck(system=system), lambda system: shortest_ring(system=system),
            lambda system: fewest(system=system), lambda system: shows_ring(ring=ring, system=system),
            lambda system: ring_schedule(ring=ring, system=system), lambda system: ring_schedule(system, 5),
            lambda system: shows_ring(system, None),
        ]

    def test_errors_of_a_system(self):
        free = (("lock", "f", "x"), ("free", "f"), ("free", "f"))
        for call in self.calls():
            for value in ODD:
                with self.assertRaises(InvalidSystem) as caught:
                    call(value)
                self.assertEqual(caught.exception.part, "form")
            with self.assertRaises(InvalidModes) as caught:
                call((ONE_WAY[:2] + ((),), ("f",), (("a", (), (), free),)))
            self.assertEqual(caught.exception.part, "joins")
            with self.assertRaises(InvalidTemplate) as caught:
                call((ONE_WAY, ("f",), (("a", (), (), free),)))
            self.assertEqual((caught.exception.template, caught.exception.step), (0, 2))

    def test_systems_that_rings_do_not_speak_of(self):
        free = ("a", (), (), (("lock", "f", "x"), ("free", "f")))
        for call in self.calls():
            for modes, templates in [(ONE_WAY, (LOOSE,)), (TWO, (free,)), (TWO, (LOOSE, free)), (ONE_WAY, (free,))]:
                system = (modes, ("f",), templates)
                with self.assertRaises(Mismatch) as caught:
                    call(system)
                self.assertEqual(caught.exception.name, "system")

    def test_rows_may_be_freed(self):
        system = system_of(("a", PAIR, (), LOCK_PQ + (("free", "p"),)))
        self.has_ring(system, 2)

    def test_no_schedule_for_what_is_no_ring(self):
        for value in ODD + [[(0, 1, (1, 2)), (0, 1, (2, 3))], [(0, 1, (1, 2))]]:
            with self.assertRaises(Mismatch) as caught:
                ring_schedule(system_of(LOOSE), value)
            self.assertEqual(caught.exception.name, "ring")

    def test_arguments_stay_and_results_are_new(self):
        system = system_of(LOOSE)
        ring = [(0, 1, (1, 2)), (0, 1, (2, 1))]
        kept = copy.deepcopy((system, ring))
        first = ring_schedule(system, ring)
        shows_ring(system, ring)
        self.assertEqual((system, ring), kept)
        told = copy.deepcopy(first)
        first[0].clear()
        first[1].clear()
        self.assertEqual(ring_schedule(system, ring), told)
        self.assertEqual(ring_schedule(system, tuple(ring)), told)
        found = shortest_ring(system)
        found.clear()
        self.assertEqual(len(shortest_ring(system)), 2)


if __name__ == "__main__":
    unittest.main()
