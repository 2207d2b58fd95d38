import unittest

from lockplay import all_states
from samples import LOCK_PQ, LOOSE, ODD, ONE_WAY, ONLY_S, PAIR, READ_WRITE, TWO, UP, nested, system_of
from stuckrows.errors import (
    InvalidInstances, InvalidModes, InvalidNumber, InvalidSchedule, InvalidSystem, InvalidTemplate, TooLarge,
)
from stuckrows.modes import standard
from stuckrows.runs import least_ahead, least_schedule, outcomes, play, stuck_behind, way_to

MOVE = ("move", (("p", "t"), ("q", "t")), (), LOCK_PQ)
SYSTEM = (standard(), (), (MOVE,))
CROSS = ((0, (1, 2)), (0, (2, 1)))
LARGE = 10 ** 40


def counted(*counts):
    """A system and instances of which nobody ever waits, with so many lock steps."""
    templates = tuple(
        (name, (("p", "t"),), (), (("lock", "p", "s"),) * count) for name, count in zip("abcdef", counts)
    )
    return system_of(*templates, modes=ONLY_S), [(index, (index,)) for index in range(len(counts))]


class Base(unittest.TestCase):

    def raises(self, error, values, call, *args, **named):
        with self.assertRaises(error) as caught:
            call(*args, **named)
        self.assertIs(type(caught.exception), error)
        self.assertEqual(caught.exception.__dict__, values)


class Play(Base):

    def test_examples(self):
        self.assertEqual(play(SYSTEM, CROSS, [0, 1, 0]), [(1, "waits", [1]), (1, "ready", [])])
        told = [stuck_behind(SYSTEM, CROSS, [0, 1, 0, 1]), play(SYSTEM, CROSS, [0, 0, 1, 0])]
        self.assertEqual(told, [[0, 1], [(3, "ended", []), (1, "ready", [])]])

    def test_lists_and_tuples_are_the_same(self):
        for schedule in ([0, 1, 0, 1], (0, 1, 0, 1)):
            for instances in (CROSS, list(CROSS)):
                self.assertEqual(play(SYSTEM, instances, schedule), [(1, "waits", [1]), (1, "waits", [0])])
        self.assertEqual(stuck_behind(schedule=(), instances=CROSS, system=SYSTEM), [])
        self.assertEqual(play(instances=CROSS, system=SYSTEM, schedule=()), [(0, "ready", [])] * 2)

    def test_a_lock_that_waits_is_done_by_the_turn_of_another_one(self):
        both = ((0, (1, 2)), (0, (1, 2)))
        self.assertEqual(play(SYSTEM, both, [0, 1]), [(1, "ready", []), (0, "waits", [0])])
        self.assertEqual(play(SYSTEM, both, [0, 1, 0, 0]), [(3, "ended", []), (1, "ready", [])])
        self.assertEqual(play(SYSTEM, both, [0, 1, 0, 0, 1, 1]), [(3, "ended", [])] * 2)

    def test_several_are_granted_by_one_turn(self):
        steps = (("lock", "f", "x"), ("free", "f"), ("lock", "g", "s"))
        read = (("lock", "f", "s"), ("lock", "g", "s"))
        system = system_of(("a", (), (), steps), ("b", (), (), read), fixed=("f", "g"))
        some = [(0, ()), (1, ()), (1, ()), (1, ())]
        told = play(system, some, [0, 3, 1, 2])
        self.assertEqual(told, [(1, "ready", []), (0, "waits", [0, 3]), (0, "waits", [0, 1, 3]), (0, "waits", [0])])
        told = play(system, some, [0, 3, 1, 2, 0])
        self.assertEqual(told, [(2, "ready", []), (1, "ready", []), (1, "ready", []), (1, "ready", [])])

    def test_conversions_and_queues(self):
        system = system_of(READ_WRITE)
        some = [(0, (7,))] * 3
        self.assertEqual(play(system, some, [0, 1, 0, 2]), [(1, "waits", [1]), (1, "ready", []), (0, "waits", [0])])
        self.assertEqual(stuck_behind(system, some, [0, 1, 0, 2]), [])
        self.assertEqual(stuck_behind(system, some, [0, 1, 0, 2, 1]), [0, 1, 2])

    def test_what_is_locked_twice_and_held_already(self):
        steps = (("lock", "p", "x"), ("lock", "p", "s"), ("free", "p"))
        system = system_of(("a", PAIR, (), steps))
        some = ((0, (-LARGE, LARGE)), (0, (-LARGE, 0)))
        self.assertEqual(play(system, some, [0, 1, 0, 0]), [(3, "ready", []), (1, "ready", [])])

    def test_modes_that_are_not_symmetric_and_fixed_items_that_are_freed(self):
        steps = (("lock", "f", "x"), ("lock", "g", "y"), ("free", "f"))
        other = (("lock", "f", "y"), ("lock", "f", "x"), ("free", "f"))
        system = system_of(("a", (), (), steps), ("b", (), (), other), modes=ONE_WAY, fixed=("f", "g"))
        some = [(0, ()), (1, ())]
        self.assertEqual(play(system, some, [0, 1, 1]), [(1, "ready", []), (1, "waits", [0])])
        self.assertEqual(play(system, some, [0, 1, 1, 0, 0]), [(3, "ready", []), (2, "ready", [])])
        self.assertEqual(play(system, some, [1, 0]), [(0, "waits", [1]), (1, "ready", [])])

    def test_twelve_instances(self):
        some = [(0, (place, (place + 1) % 12)) for place in range(12)]
        self.assertEqual(stuck_behind(SYSTEM, some, list(range(12)) * 2), list(range(12)))
        self.assertEqual(stuck_behind(SYSTEM, some, list(range(12)) + list(range(11))), [])

    def test_results_are_new_and_arguments_stay(self):
        instances, schedule = list(CROSS), [0, 1, 0]
        first = play(SYSTEM, instances, schedule)
        first[0][2].append(9)
        first.clear()
        self.assertEqual(play(SYSTEM, instances, schedule), [(1, "waits", [1]), (1, "ready", [])])
        stuck_behind(SYSTEM, instances, schedule).append(4)
        self.assertEqual((instances, schedule), (list(CROSS), [0, 1, 0]))
        self.assertEqual(stuck_behind(SYSTEM, instances, schedule), [])

    def test_wrong_schedules(self):
        for call in (play, stuck_behind):
            for value in [value for value in ODD if not isinstance(value, (list, tuple))] + ["01", {0: 1}]:
                self.raises(InvalidSchedule, {"index": -1}, call, SYSTEM, CROSS, value)
            for value in ODD + [2, -1, "0", (0,), [0]]:
                self.raises(InvalidSchedule, {"index": 0}, call, SYSTEM, CROSS, [value])
                self.raises(InvalidSchedule, {"index": 2}, call, SYSTEM, CROSS, schedule=(0, 1, value, value))
            # One that waits or has ended has no turn.
            self.raises(InvalidSchedule, {"index": 3}, call, SYSTEM, CROSS, [0, 1, 0, 0, 1])
            self.raises(InvalidSchedule, {"index": 3}, call, SYSTEM, CROSS, [0, 0, 0, 0])
            self.raises(InvalidSchedule, {"index": 4}, call, SYSTEM, CROSS, [0, 1, 0, 1, 0])

    def test_a_nested_schedule(self):
        self.raises(InvalidSchedule, {"index": 0}, play, SYSTEM, CROSS, nested(list, 100000))
        self.raises(InvalidInstances, {"index": 0}, play, SYSTEM, nested(tuple, 100000), [])


class Checks(Base):
    """What all functions of runs raise for systems and instances."""

    calls = [
        lambda *args, **named: play(*args, schedule=5, **named),
        lambda *args, **named: stuck_behind(*args, schedule=5, **named),
        lambda *args, **named: least_schedule(*args, all_of=5, **named),
        lambda *args, **named: least_schedule(*args, **named), lambda *args, **named: outcomes(*args, **named),
        lambda *args, **named: way_to(*args, turns=5, **named),
        lambda *args, **named: least_ahead(*args, turns=5, **named),
    ]

    def test_systems_come_first(self):
        for call in self.calls:
            for system, error, values in [
                (5, InvalidSystem, {"part": "form"}), ((5, 5, 5), InvalidModes, {"part": "form"}),
                ((TWO, 5, 5), InvalidSystem, {"part": "fixed"}),
                ((TWO, (), (5,)), InvalidTemplate, {"template": 0, "step": -1}),
                ((TWO, (), (("a", (), (), (5,)),)), InvalidTemplate, {"template": 0, "step": 0}),
            ]:
                self.raises(error, values, call, system, 5)
                self.raises(error, values, call, instances=5, system=system)

    def test_what_is_no_list_of_one_to_twelve(self):
        for call in self.calls:
            for value in [value for value in ODD if value not in ([], ()) and not isinstance(value, (list, tuple))]:
                self.raises(InvalidInstances, {"index": -1}, call, SYSTEM, value)
            for value in ([], (), [CROSS[0]] * 13, tuple(CROSS) * 7):
                self.raises(InvalidInstances, {"index": -1}, call, SYSTEM, instances=value)

    def test_the_first_entry_that_is_no_instance(self):
        system = (standard(), (), (MOVE, UP))
        wrong = ODD + [
            [0, (1, 2)], (0, [1, 2]), (0, (1,)), (0, (1, 2, 3)), (0, (1, 1)), (0, (1, True)), (0, (1, None)), (2, (1, 2)),
            (-1, (1, 2)), (False, (1, 2)), ("0", (1, 2)), (0,), (0, (1, 2), 3), (1, (2, 1)), (1, (2, 2)), ((0,), (1, 2)),
            (0, ("a", "b")), (0, 12), (10 ** 50, (1, 2)),
        ]
        for call in self.calls:
            for value in wrong + [(value, (1, 2)) for value in ODD] + [(0, value) for value in ODD]:
                self.raises(InvalidInstances, {"index": 1}, call, system, [(0, (2, 1)), value, 5])
                self.raises(InvalidInstances, {"index": 0}, call, system, (value,))

    def test_instances(self):
        system = (standard(), ("f",), (MOVE, UP, ("three", (("p", "t"), ("q", "u")), (), LOCK_PQ), ("none", (), (), (
            ("lock", "f", "x"),))))
        for some in [[(0, (2, 1))], [(1, (-LARGE, LARGE))], [(2, (1, 1))], [(3, ())] * 12, ((0, (1, 2)),) * 5]:
            self.assertEqual(play(system, some, []), [(0, "ready", [])] * len(some))


class LeastSchedule(Base):

    def test_example(self):
        self.assertEqual(least_schedule(SYSTEM, CROSS), [0, 1, 0, 1])
        self.assertEqual(outcomes(SYSTEM, CROSS), (4, 4))
        self.assertIsNone(least_schedule(SYSTEM, ((0, (1, 2)), (0, (1, 2)))))

    def test_all_of_them(self):
        three = CROSS + ((0, (5, 6)),)
        self.assertEqual(least_schedule(SYSTEM, three), [0, 1, 0, 1])
        self.assertIsNone(least_schedule(SYSTEM, three, all_of=True))
        three = CROSS + ((0, (2, 9)),)
        self.assertEqual(least_schedule(SYSTEM, three, all_of=False), [0, 1, 0, 1])
        self.assertEqual(least_schedule(SYSTEM, three, all_of=True), [0, 1, 0, 1, 2])
        self.assertEqual(least_schedule(SYSTEM, CROSS, all_of=True), [0, 1, 0, 1])

    def test_one_instance_is_never_stuck(self):
        for all_of in (False, True):
            self.assertIsNone(least_schedule(SYSTEM, [(0, (1, 2))], all_of=all_of))
        self.assertEqual(outcomes(SYSTEM, [(0, (1, 2))]), (1, 0))

    def test_the_least_of_the_shortest(self):
        # 1 and 2 can be stuck, and so can 0 and 1, but only with more turns.
        far = ("far", (("p", "t"), ("q", "t"), ("r", "t")), (), (("lock", "r", "x"),) + LOCK_PQ)
        system = (standard(), (), (MOVE, far))
        some = [(1, (2, 1, 7)), (0, (1, 2)), (0, (2, 1))]
        self.assertEqual(least_schedule(system, some), [1, 2, 1, 2])
        self.assertEqual(least_schedule(system, some[:2]), [0, 0, 1, 0, 1])

    def test_all_of_by_keyword_alone(self):
        for value in [value for value in ODD if value not in (True, False)] + [0, 1]:
            if not isinstance(value, bool):
                self.raises(InvalidNumber, {"name": "all_of"}, least_schedule, SYSTEM, CROSS, all_of=value)
        with self.assertRaises(TypeError):
            least_schedule(SYSTEM, CROSS, True)
        self.assertEqual(least_schedule(all_of=True, instances=list(CROSS), system=SYSTEM), [0, 1, 0, 1])


class WaysTo(Base):

    def test_example(self):
        told = [way_to(SYSTEM, CROSS, (1, 1)), way_to(SYSTEM, CROSS, (2, 1)), way_to(SYSTEM, CROSS, [3, 1])]
        self.assertEqual(told, [[0, 1], None, [0, 0, 0, 1]])
        self.assertEqual(least_ahead(SYSTEM, CROSS, (3, 1)), [[(0, 0), (1, 0), (2, 0)], [(3, 0)]])

    def test_no_turns_and_all_turns(self):
        self.assertEqual(way_to(SYSTEM, CROSS, (0, 0)), [])
        self.assertEqual(least_ahead(SYSTEM, CROSS, (0, 0)), [[], []])
        self.assertEqual(way_to(SYSTEM, CROSS, (3, 3)), [0, 0, 0, 1, 1, 1])
        told = least_ahead(SYSTEM, CROSS, [3, 3])
        self.assertEqual(told, [[(0, 0), (1, 0), (2, 0)], [(0, 0), (0, 1), (0, 2)]])

    def test_the_other_one_must_come_first(self):
        self.assertEqual(way_to(SYSTEM, CROSS, (1, 3)), [1, 1, 1, 0])
        self.assertEqual(least_ahead(SYSTEM, CROSS, (1, 3)), [[(0, 3)], [(0, 0), (0, 1), (0, 2)]])
        self.assertIsNone(least_ahead(SYSTEM, CROSS, (2, 1)))

    def test_nobody_ever_waits(self):
        both = ((0, (1, 2)), (0, (1, 2)))
        # Behind 0, 1, 0, 0 these turns are done too, but 1 has waited.
        self.assertEqual(least_ahead(SYSTEM, both, (3, 1)), [[(0, 0), (1, 0), (2, 0)], [(3, 0)]])

    def test_wrong_turns(self):
        for call in (way_to, least_ahead):
            wrong = [value for value in ODD if not isinstance(value, (list, tuple))] + ["11", {0: 1, 1: 1}]
            for value in wrong + [(), [], (1,), (1, 1, 1), (4, 0), (0, 4), (-1, 0), (True, 1), (1, None), ("1", 1)]:
                self.raises(InvalidNumber, {"name": "turns"}, call, SYSTEM, CROSS, value)
            for value in ODD:
                self.raises(InvalidNumber, {"name": "turns"}, call, SYSTEM, CROSS, turns=[0, value])

    def test_results_are_new_and_arguments_stay(self):
        instances, turns = list(CROSS), [3, 1]
        way_to(SYSTEM, instances, turns).clear()
        first = least_ahead(SYSTEM, instances, turns)
        first[0].clear()
        first.pop()
        self.assertEqual(least_ahead(SYSTEM, instances, turns), [[(0, 0), (1, 0), (2, 0)], [(3, 0)]])
        self.assertEqual((way_to(SYSTEM, instances, turns), turns, instances), ([0, 0, 0, 1], [3, 1], list(CROSS)))
        least_schedule(SYSTEM, CROSS).clear()
        self.assertEqual(least_schedule(SYSTEM, CROSS), [0, 1, 0, 1])


class TooMany(Base):

    def calls(self, system, instances):
        """All four functions that look at all schedules, with right arguments."""
        turns = [0] * len(instances)
        return [
            lambda: least_schedule(system, instances), lambda: outcomes(system, instances),
            lambda: least_schedule(system, instances, all_of=True),
            lambda: way_to(system, instances, turns), lambda: least_ahead(system, instances, turns),
        ]

    def test_four_instances_and_five(self):
        system, instances = counted(1, 1, 1, 1, 1)
        for call in self.calls(system, instances):
            self.raises(TooLarge, {"limit": 4}, call)
        for call in self.calls(system, instances[:4]):
            call()
        # More than four instances are told before more than 2000 states.
        for call in self.calls(*counted(8, 8, 8, 8, 8)):
            self.raises(TooLarge, {"limit": 4}, call)

    def test_two_thousand_states_and_more(self):
        # So many lock steps give two more numbers of turns: 10 * 10 * 5 * 4 states are 2000, 9 * 8 * 7 * 4 are 2016.
        system, instances = counted(8, 8, 3, 2)
        self.assertEqual(way_to(system, instances, [1, 0, 1, 0]), [0, 2])
        self.assertIsNone(least_schedule(system, instances))
        self.assertEqual(outcomes(system, instances)[1], 0)
        for call in self.calls(*counted(7, 6, 5, 2)):
            self.raises(TooLarge, {"limit": 2000}, call)

    def test_also_where_the_answer_would_be_found_among_fewer(self):
        # Two of them are stuck soon, but the other two have many turns of their own.
        long = ("long", (("p", "u"),), (), (("lock", "p", "s"),) * 8)
        system = (standard(), (), (("move", MOVE[1], (), LOCK_PQ * 3), long))
        some = list(CROSS) + [(1, (1,)), (1, (2,))]
        for call in self.calls(system, some):
            self.raises(TooLarge, {"limit": 2000}, call)
        self.assertEqual(least_schedule(system, some[:3]), [0, 1, 0, 1])

    def test_orders_of_waiting_count(self):
        for count, rows in WAITING_STATES.items():
            templates = tuple((name, PAIR, (), steps) for name, (steps, _) in zip("abcd", rows))
            instances = [(place, keys) for place, (_, keys) in enumerate(rows)]
            self.assertEqual(len(list(all_states((standard(), (), templates), instances))), count)
            for call in self.calls((standard(), (), templates), instances):
                if count > 2000:
                    self.raises(TooLarge, {"limit": 2000}, call)
                else:
                    call()

    def test_behind_the_errors_of_all_arguments(self):
        for system, some in (counted(1, 1, 1, 1, 1), counted(8, 8, 8, 8)):
            self.raises(InvalidNumber, {"name": "all_of"}, least_schedule, system, some, all_of=None)
            for call in (way_to, least_ahead):
                self.raises(InvalidNumber, {"name": "turns"}, call, system, some, [0, 0, 0])
            self.raises(InvalidInstances, {"index": 0}, outcomes, system, [5] + some)


def locks(text):
    """Lock steps told as pairs of an item and a mode."""
    return tuple(("lock",) + tuple(pair.split(":")) for pair in text.split())


# Instances of which some wait, by the number of their states.
WAITING_STATES = {
    2000: [
        (locks("p:ix p:s p:is p:s q:s q:s"), (1, 3)), (locks("p:ix q:is p:ix q:s q:is"), (3, 2)),
        (locks("q:s q:ix p:s p:ix q:x"), (0, 1)), (locks("p:s q:x q:ix p:s q:ix q:s"), (2, 4)),
    ],
    2001: [
        (locks("p:s p:s q:x p:is p:is"), (3, 1)), (locks("q:is p:is p:s p:ix q:is"), (3, 1)),
        (locks("p:ix p:is q:is p:ix p:s"), (1, 2)), (locks("p:ix q:ix q:is q:is q:ix"), (2, 1)),
    ],
}


if __name__ == "__main__":
    unittest.main()
