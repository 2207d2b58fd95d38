import unittest

from samples import ODD, ONE_WAY, ONLY_X, TWO, nested
from stuckrows.errors import (
    InvalidItem, InvalidMode, InvalidModes, InvalidOwner, InvalidPrices, NotHeld, StuckError, TooLarge, Waiting,
)
from stuckrows.locks import LockTable
from stuckrows.modes import standard

LARGE = 10 ** 30
WRONG_OWNERS = [value for value in ODD if value not in (99, 10 ** 5000)] + ["1", (1,), [1], -LARGE]
WRONG_ITEMS = ODD + [
    ("t",), ("t", True), ("t", None), ("t", "a"), ("T", 1), ("", 1), ("a" * 13, 1), ("t", 1, 2), ["t", 1], "t1",
    (1, "t"), (("t", 1), 1), ("t", (1,)), b"t",
]
TWELVE = "abcdefghijkl"


def held(table, rows):
    """The table, behind asks that are all granted at once."""
    for owner, item, mode in rows:
        assert table.ask(owner, item, mode) is True
    return table


def ring_of(count, first=0):
    """A table in which so many owners, from the first one on, wait for the next one in a ring."""
    table = held(LockTable(ONLY_X), [(first + place, ("row", place), "x") for place in range(count)])
    for place in range(count):
        assert table.ask(first + place, ("row", (place + 1) % count), "x") is False
    return table


def all_told(table):
    """All that a table tells about a few owners and items."""
    owners, items = range(6), ["a", "b", ("t", 1), ("t", 2)]
    return (
        [(table.holds_of(owner), table.ask_of(owner), table.waits_for(owner)) for owner in owners],
        [(table.holders_at(item), table.waiters_at(item)) for item in items],
        table.stuck_owners(), table.waiting_ring(),
    )


class Base(unittest.TestCase):

    def raises(self, error, value, call, *args, **named):
        """The call raises the error, and it carries this very value."""
        with self.assertRaises(error) as caught:
            call(*args, **named)
        self.assertIs(type(caught.exception), error)
        told = list(caught.exception.__dict__.values())
        self.assertEqual(len(told), 1)
        self.assertTrue(told[0] is value or told[0] == value)


class Asks(Base):

    def test_example(self):
        table = LockTable(TWO)
        told = [table.ask(1, "a", "s"), table.ask(2, "a", "s"), table.ask(1, "a", "x"), table.ask(3, "a", "s")]
        self.assertEqual(told, [True, True, False, False])
        told = [table.holders_at("a"), table.waiters_at("a"), table.waits_for(1), table.waits_for(3)]
        self.assertEqual(told, [[(1, "s"), (2, "s")], [(1, "x"), (3, "s")], [2], [1]])
        victims = table.least_victims({1: 5, 2: 3, 3: 1}) if table.ask(2, "a", "x") is False else None
        self.assertEqual([table.stuck_owners(), table.waiting_ring(), victims], [[1, 2, 3], [1, 2], [2]])
        told = [table.finish(2), table.waiters_at("a"), table.holders_at("a"), table.stuck_owners()]
        self.assertEqual(told, [[(1, "a")], [(3, "s")], [(1, "x")], []])

    def test_an_ask_is_the_join_with_what_is_held(self):
        table = held(LockTable(standard()), [(1, "a", "ix"), (1, "a", "s"), (1, "b", "u"), (1, "b", "s")])
        self.assertEqual(table.holds_of(1), [("a", "six"), ("b", "u")])
        table = held(LockTable(standard()), [(1, "a", "s"), (2, "a", "is"), (3, "a", "s")])
        self.assertIs(table.ask(2, "a", "ix"), False)
        self.assertEqual([table.ask_of(2), table.waits_for(2)], [("a", "ix"), [1, 3]])
        self.assertIs(table.ask(1, "a", "ix"), False)
        self.assertEqual([table.ask_of(1), table.waiters_at("a")], [("a", "six"), [(2, "ix"), (1, "six")]])

    def test_what_is_held_already_is_granted_though_others_wait(self):
        table = held(LockTable(standard()), [(1, "a", "six"), (2, "a", "is")])
        self.assertIs(table.ask(3, "a", "x"), False)
        self.assertIs(table.ask(2, "a", "x"), False)
        for mode in ("is", "ix", "s", "u", "six"):
            self.assertIs(table.ask(1, "a", mode), True)
        self.assertEqual(table.holders_at("a"), [(1, "six"), (2, "is")])
        self.assertEqual(table.waiters_at("a"), [(2, "x"), (3, "x")])

    def test_a_conversion_goes_past_those_that_wait(self):
        table = held(LockTable(TWO), [(1, "a", "s")])
        self.assertIs(table.ask(2, "a", "x"), False)
        self.assertIs(table.ask(1, "a", "x"), True)
        table = held(LockTable(standard()), [(1, "a", "is"), (2, "a", "is"), (3, "a", "s")])
        self.assertIs(table.ask(1, "a", "x"), False)
        # A conversion that the holders allow does not wait for another one.
        self.assertIs(table.ask(2, "a", "s"), True)

    def test_a_queue(self):
        table = held(LockTable(TWO), [(5, "a", "s")])
        told = [table.ask(4, "a", "x"), table.ask(3, "a", "s"), table.ask(2, "a", "s"), table.ask(1, "a", "x")]
        self.assertEqual(told, [False] * 4)
        self.assertEqual(table.waiters_at("a"), [(4, "x"), (3, "s"), (2, "s"), (1, "x")])
        told = [table.waits_for(owner) for owner in (5, 4, 3, 2, 1, 0)]
        self.assertEqual(told, [[], [5], [4], [3, 4], [2, 3, 4, 5], []])
        self.assertEqual(table.let_go(5, "a"), [(4, "a")])
        self.assertEqual(table.let_go(4, "a"), [(3, "a"), (2, "a")])
        self.assertEqual([table.holders_at("a"), table.waiters_at("a")], [[(2, "s"), (3, "s")], [(1, "x")]])

    def test_who_asks_behind_a_conversion_waits(self):
        table = held(LockTable(standard()), [(1, "a", "is"), (2, "a", "s")])
        self.assertEqual([table.ask(1, "a", "ix"), table.ask(3, "a", "is")], [False, False])
        # What it asks for is allowed by all holders, so it waits for the conversion alone.
        self.assertEqual([table.waits_for(3), table.waits_for(1)], [[1], [2]])

    def test_modes_that_allow_one_way_only(self):
        table = held(LockTable(ONE_WAY), [(1, "a", "x"), (2, "a", "y")])
        self.assertIs(table.ask(3, "a", "x"), False)
        self.assertEqual(table.waits_for(3), [1, 2])
        table = held(LockTable(ONE_WAY), [(1, "a", "y")])
        self.assertIs(table.ask(2, "a", "x"), False)

    def test_rows_and_fixed_items_are_apart(self):
        items = ["t", ("t", 0), ("t", -LARGE), ("t", LARGE), ("u", 0), "abcdefghijkl", ("abcdefghijkl", 1)]
        table = held(LockTable(ONLY_X), [(owner, item, "x") for owner, item in enumerate(items)])
        self.assertEqual([table.holders_at(item) for item in items], [[(owner, "x")] for owner in range(7)])
        self.assertIs(table.ask(owner=LARGE, item=("t", LARGE), mode="x"), False)
        self.assertEqual(table.waits_for(owner=LARGE), [3])

    def test_modes_are_checked(self):
        for value in ODD + [TWO[:2], TWO + ((),), list(TWO)]:
            self.raises(InvalidModes, "form", LockTable, value)
        self.raises(InvalidModes, "names", LockTable, modes=((), 5, 5))
        self.raises(InvalidModes, "exact", LockTable, (("s", "x"), (("x", "s"),), (("s", "x", "x"),)))


class Frees(Base):

    def test_let_go(self):
        table = held(LockTable(TWO), [(1, "a", "x"), (1, "b", "s")])
        self.assertEqual(table.let_go(item="b", owner=1), [])
        self.assertEqual([table.holds_of(1), table.holders_at("b")], [[("a", "x")], []])
        self.raises(NotHeld, "b", table.let_go, 1, "b")

    def test_a_waiting_conversion_does_not_keep_back_those_behind_it(self):
        table = held(LockTable(standard()), [(1, "a", "s"), (2, "a", "is"), (3, "a", "is"), (4, "a", "s")])
        self.assertEqual([table.ask(2, "a", "x"), table.ask(3, "a", "ix"), table.ask(5, "a", "is")], [False] * 3)
        self.assertEqual(table.let_go(1, "a"), [])
        # The first conversion must wait for all; the second one need not wait any more; the queue waits for the first.
        self.assertEqual(table.let_go(4, "a"), [(3, "a")])
        self.assertEqual(table.waiters_at("a"), [(2, "x"), (5, "is")])
        self.assertEqual(table.let_go(3, "a"), [(2, "a")])
        self.assertEqual(table.finish(2), [(5, "a")])

    def test_a_conversion_is_looked_at_with_what_was_granted_before_it(self):
        table = held(LockTable(standard()), [(1, "a", "s"), (2, "a", "is"), (3, "a", "is")])
        self.assertEqual([table.ask(2, "a", "ix"), table.ask(3, "a", "six"), table.ask(4, "a", "is")], [False] * 3)
        self.assertEqual(table.finish(1), [(2, "a")])
        self.assertEqual(table.waits_for(3), [2])

    def test_the_queue_is_granted_up_to_the_first_that_is_not_allowed(self):
        table = held(LockTable(standard()), [(1, "a", "x")])
        for owner, mode in [(2, "is"), (3, "s"), (4, "ix"), (5, "is")]:
            self.assertIs(table.ask(owner, "a", mode), False)
        self.assertEqual(table.finish(1), [(2, "a"), (3, "a")])
        self.assertEqual([table.waits_for(4), table.waits_for(5)], [[3], [4]])

    def test_an_owner_that_ends_frees_in_the_order_of_locking(self):
        table = held(LockTable(ONLY_X), [(1, "c", "x"), (1, "a", "x"), (1, ("b", 1), "x"), (1, "c", "x")])
        self.assertEqual(table.holds_of(1), [("c", "x"), ("a", "x"), (("b", 1), "x")])
        told = [table.ask(2, "a", "x"), table.ask(3, ("b", 1), "x"), table.ask(4, "c", "x"), table.ask(5, "c", "x")]
        self.assertEqual(told, [False] * 4)
        self.assertEqual(table.finish(owner=1), [(4, "c"), (2, "a"), (3, ("b", 1))])
        self.assertEqual([table.holds_of(1), table.holders_at("c"), table.finish(1)], [[], [(4, "x")], []])

    def test_what_was_freed_and_locked_again_is_freed_later(self):
        table = held(LockTable(standard()), [(1, "a", "is"), (1, "b", "x"), (1, "a", "ix")])
        self.assertEqual(table.holds_of(1), [("a", "ix"), ("b", "x")])
        self.assertEqual(table.let_go(1, "a"), [])
        held(table, [(1, "a", "x")])
        self.assertEqual(table.holds_of(1), [("b", "x"), ("a", "x")])
        self.assertEqual([table.ask(2, "a", "s"), table.ask(3, "b", "s")], [False, False])
        self.assertEqual(table.finish(1), [(3, "b"), (2, "a")])

    def test_what_was_waited_for_counts_from_its_grant(self):
        table = held(LockTable(ONLY_X), [(1, "a", "x"), (2, "b", "x")])
        self.assertIs(table.ask(2, "a", "x"), False)
        self.assertEqual(table.finish(1), [(2, "a")])
        held(table, [(2, "c", "x")])
        self.assertEqual(table.holds_of(2), [("b", "x"), ("a", "x"), ("c", "x")])

    def test_an_owner_that_ends_in_the_queue(self):
        table = held(LockTable(TWO), [(1, "a", "s"), (2, "b", "x")])
        self.assertEqual([table.ask(2, "a", "x"), table.ask(3, "a", "s"), table.ask(4, "b", "s")], [False] * 3)
        # The ask is taken away first, then b is freed.
        self.assertEqual(table.finish(2), [(3, "a"), (4, "b")])
        self.assertEqual([table.ask_of(2), table.holds_of(2), table.waiters_at("a")], [None, [], []])

    def test_an_owner_that_ends_behind_others_in_the_queue(self):
        table = held(LockTable(TWO), [(1, "a", "x")])
        self.assertEqual([table.ask(2, "a", "s"), table.ask(3, "a", "x"), table.ask(4, "a", "s")], [False] * 3)
        self.assertEqual(table.finish(3), [])
        self.assertEqual([table.waiters_at("a"), table.waits_for(4)], [[(2, "s"), (4, "s")], [1, 2]])

    def test_where_it_holds_and_waits_asks_are_granted_twice(self):
        table = held(LockTable(standard()), [(1, "b", "x"), (1, "a", "s"), (2, "a", "is")])
        told = [table.ask(1, "a", "x"), table.ask(3, "a", "is"), table.ask(4, "a", "ix"), table.ask(5, "b", "s")]
        self.assertEqual(told, [False] * 4)
        # The ask is taken away, and 3 need not wait any more; then b is freed; then the hold at a, which kept 4 back.
        self.assertEqual(table.finish(1), [(3, "a"), (5, "b"), (4, "a")])

    def test_the_hold_counts_while_the_ask_is_taken_away(self):
        table = held(LockTable(standard()), [(1, "a", "is"), (2, "a", "is"), (1, "b", "x")])
        told = [table.ask(3, "b", "x"), table.ask(1, "a", "x"), table.ask(2, "a", "x"), table.ask(4, "a", "is")]
        self.assertEqual(told, [False] * 4)
        self.assertEqual([table.finish(1), table.waits_for(4)], [[(2, "a"), (3, "b")], [2]])

    def test_a_conversion_may_be_granted_by_the_end_of_the_one_before_it(self):
        table = held(LockTable(standard()), [(1, "a", "s"), (2, "a", "is"), (5, "a", "u")])
        self.assertEqual([table.ask(1, "a", "x"), table.ask(2, "a", "ix"), table.finish(5)], [False, False, []])
        # With the hold in s 2 is not allowed, without it it is.
        self.assertEqual(table.finish(1), [(2, "a")])

    def test_owners_that_hold_nothing(self):
        table = LockTable(TWO)
        self.assertEqual([table.finish(7), table.holds_of(7), table.ask_of(7), table.waits_for(7)], [[], [], None, []])
        self.assertEqual([table.holders_at("a"), table.waiters_at(("t", 1)), table.stuck_owners()], [[], [], []])
        self.assertEqual([table.waiting_ring(), table.least_victims({})], [None, []])


class Stuck(Base):

    def test_two_and_many(self):
        for count in (2, 3, 12, 60):
            table = ring_of(count)
            self.assertEqual(table.stuck_owners(), list(range(count)))
            self.assertEqual(table.waiting_ring(), list(range(count)))

    def test_who_waits_for_a_ring_is_stuck_and_who_is_waited_for_need_not_be(self):
        table = held(ring_of(3, first=10), [(5, "a", "x")])
        self.assertEqual([table.ask(6, "a", "x"), table.ask(20, ("row", 0), "x"), table.ask(21, ("row", 0), "x")], [False] * 3)
        self.assertEqual(table.stuck_owners(), [10, 11, 12, 20, 21])
        self.assertEqual(table.waits_for(21), [10, 12, 20])
        self.assertEqual(table.waiting_ring(), [10, 11, 12])
        self.assertEqual(table.finish(10)[0], (12, ("row", 0)))
        self.assertEqual(table.stuck_owners(), [])

    def test_a_waiter_in_the_queue_closes_a_ring(self):
        table = held(LockTable(TWO), [(1, "a", "s"), (3, "b", "x")])
        self.assertEqual([table.ask(2, "a", "x"), table.ask(3, "a", "s"), table.ask(1, "b", "s")], [False] * 3)
        self.assertEqual(table.waiting_ring(), [1, 3, 2])

    def test_the_least_of_the_shortest_rings(self):
        items = [(owner, ("t", owner), "s") for owner in range(6)]
        table = held(LockTable(standard()), items)
        for owner, other in [(0, 1), (1, 2), (2, 0), (3, 4), (4, 5), (5, 3)]:
            self.assertIs(table.ask(owner, ("t", other), "x"), False)
        self.assertEqual(table.waiting_ring(), [0, 1, 2])
        table = held(LockTable(standard()), items)
        for owner, other in [(0, 1), (1, 2), (2, 0), (3, 5), (4, 3), (5, 3)]:
            self.assertIs(table.ask(owner, ("t", other), "x"), False)
        self.assertEqual(table.waiting_ring(), [3, 5])

    def test_of_several_rings_with_the_same_least_owner_the_least(self):
        # 0 waits for all of 1, 2 and 3; two of them wait for 0.
        table = held(LockTable(TWO), [(owner, "a", "s") for owner in (1, 2, 3)] + [(0, "b", "s"), (0, "c", "s")])
        told = [table.ask(0, "a", "x"), table.ask(3, "b", "x"), table.ask(2, "c", "x")]
        self.assertEqual(told, [False] * 3)
        self.assertEqual([table.waiting_ring(), table.waits_for(0)], [[0, 2], [1, 2, 3]])
        # 3 is the first on a shorter way back, though 1 is less.
        table = held(LockTable(TWO), [(owner, "a", "s") for owner in (1, 3)] + [(2, "d", "x"), (0, "b", "s")])
        told = [table.ask(0, "a", "x"), table.ask(1, "d", "x"), table.ask(2, "b", "x"), table.ask(3, "b", "s")]
        self.assertEqual(told, [False] * 4)
        self.assertEqual([table.waits_for(3), table.waiting_ring()], [[2], [0, 1, 2]])

    def test_many_in_one_queue(self):
        table = held(ring_of(2), [(1000 + place, ("more", place), "x") for place in range(300)])
        for place in range(300):
            self.assertIs(table.ask(1000 + place, ("row", 0), "x"), False)
        self.assertEqual(table.stuck_owners(), [0, 1] + list(range(1000, 1300)))
        self.assertEqual(table.waits_for(1299), [0, 1] + list(range(1000, 1299)))
        self.assertEqual(table.waiting_ring(), [0, 1])


class Victims(Base):

    def test_prices_that_are_equal_and_0(self):
        table = ring_of(4)
        self.assertEqual(table.least_victims({0: 3, 1: 2, 2: 2, 3: 9}), [1])
        self.assertEqual(table.least_victims({0: 0, 1: 0, 2: 0, 3: 0}), [0])
        self.assertEqual(table.least_victims(prices={0: LARGE, 1: LARGE + 1, 2: LARGE, 3: LARGE}), [0])

    def test_several_rings(self):
        table = LockTable(TWO)
        for first in (0, 2, 4):
            for owner in (first, first + 1):
                held(table, [(owner, ("t", first), "s")])
        for owner in range(6):
            self.assertIs(table.ask(owner, ("t", owner // 2 * 2), "x"), False)
        self.assertEqual(table.least_victims({owner: 1 for owner in range(6)}), [0, 2, 4])
        self.assertEqual(table.least_victims({0: 1, 1: 0, 2: 5, 3: 5, 4: 7, 5: 6}), [1, 2, 5])

    def test_the_cheapest_may_be_many_and_the_shortest_of_equal_price(self):
        # 0 waits for 1, 2 and 3, and each of these waits for 0.
        table = held(LockTable(TWO), [(owner, "a", "s") for owner in (1, 2, 3)] + [(0, "b", "x")])
        told = [table.ask(0, "a", "x")] + [table.ask(owner, "b", "x") for owner in (1, 2, 3)]
        self.assertEqual(told, [False] * 4)
        self.assertEqual(table.least_victims({0: 4, 1: 1, 2: 1, 3: 1}), [1, 2, 3])
        self.assertEqual(table.least_victims({0: 3, 1: 1, 2: 1, 3: 1}), [0])
        self.assertEqual(table.least_victims({0: 1, 1: 0, 2: 0, 3: 0}), [1, 2, 3])
        self.assertEqual(table.least_victims({0: 0, 1: 0, 2: 0, 3: 0}), [0])

    def test_further_prices_do_not_matter(self):
        table = held(ring_of(2, first=1), [(9, "a", "x")])
        prices = {1: 2, 2: 1, 9: 0, 7: -5, "x": "y", (1,): None, True: 2}
        kept = dict(prices)
        self.assertEqual(table.least_victims(prices), [2])
        self.assertEqual(prices, kept)
        self.assertEqual(LockTable(TWO).least_victims({1: "x", None: -1}), [])

    def test_twelve_and_thirteen(self):
        self.assertEqual(ring_of(12).least_victims({owner: 12 - owner for owner in range(12)}), [11])
        table = ring_of(13)
        self.raises(TooLarge, 12, table.least_victims, {owner: 1 for owner in range(13)})
        self.raises(InvalidPrices, "prices", table.least_victims, {owner: 1 for owner in range(12)})
        # Owners that wait and are not stuck are not counted.
        table = held(ring_of(12), [(50, "a", "x")])
        for owner in range(51, 70):
            self.assertIs(table.ask(owner, "a", "x"), False)
        self.assertEqual(table.least_victims({owner: 1 for owner in range(12)}), [0])

    def test_wrong_prices(self):
        for table in (LockTable(TWO), ring_of(2), ring_of(13)):
            for value in [value for value in ODD if not isinstance(value, dict)] + [[1, 1], (1, 1)]:
                self.raises(InvalidPrices, "prices", table.least_victims, value)
        table = ring_of(2)
        for value in [value for value in ODD if value not in (99, 10 ** 5000)] + ["1", (1,), -LARGE]:
            self.raises(InvalidPrices, "prices", table.least_victims, {0: 1, 1: value})
            self.raises(InvalidPrices, "prices", table.least_victims, prices={0: value, 1: 1})
        for prices in ({}, {0: 1}, {1: 1}, {"0": 1, "1": 1}):
            self.raises(InvalidPrices, "prices", table.least_victims, prices)
        self.assertEqual(all_told(table), all_told(ring_of(2)))


class Errors(Base):

    def table(self):
        """A table in which 1 holds and 2 holds and waits."""
        table = held(LockTable(TWO), [(1, "a", "x"), (2, "b", "s")])
        self.assertIs(table.ask(2, "a", "s"), False)
        return table

    def test_owners(self):
        table = self.table()
        for value in WRONG_OWNERS:
            for call in (table.finish, table.holds_of, table.ask_of, table.waits_for):
                self.raises(InvalidOwner, value, call, value)
                self.raises(InvalidOwner, value, call, owner=value)
            self.raises(InvalidOwner, value, table.ask, value, 5, 5)
            self.raises(InvalidOwner, value, table.let_go, item=5, owner=value)
        self.assertEqual(all_told(table), all_told(self.table()))

    def test_items(self):
        table = self.table()
        for value in WRONG_ITEMS:
            for call in (table.holders_at, table.waiters_at):
                self.raises(InvalidItem, value, call, value)
                self.raises(InvalidItem, value, call, item=value)
            for owner in (0, 1, 2):
                self.raises(InvalidItem, value, table.ask, owner, value, 5)
                self.raises(InvalidItem, value, table.let_go, item=value, owner=owner)
        self.assertEqual(all_told(table), all_told(self.table()))

    def test_modes(self):
        table = self.table()
        for value in ODD + ["ix", "S", ("s",), ["s"], "y"]:
            for owner in (0, 1, 2):
                self.raises(InvalidMode, value, table.ask, owner, "b", value)
                self.raises(InvalidMode, value, table.ask, mode=value, item=("t", 5), owner=owner)
        self.assertEqual(all_told(table), all_told(self.table()))

    def test_who_waits_does_nothing_else(self):
        table = self.table()
        for item in ("a", "b", "c", ("t", 1)):
            self.raises(Waiting, 2, table.ask, 2, item, "s")
            self.raises(Waiting, 2, table.let_go, 2, item)
        self.assertEqual(all_told(table), all_told(self.table()))
        self.assertEqual([table.finish(1), table.ask(2, "a", "x")], [[(2, "a")], True])

    def test_what_is_not_held(self):
        table = self.table()
        for owner, item in [(1, "b"), (1, ("t", 1)), (0, "a"), (7, "z")]:
            self.raises(NotHeld, item, table.let_go, owner, item)
        self.assertEqual(all_told(table), all_told(self.table()))
        self.raises(NotHeld, ("t", LARGE), table.let_go, 1, ("t", LARGE))

    def test_deep_values(self):
        table = self.table()
        for value in (nested(tuple, 100000), nested(list, 100000), ("t", nested(list, 100000))):
            self.raises(InvalidOwner, value, table.ask, value, value, value)
            self.raises(InvalidItem, value, table.ask, 1, value, value)
            self.raises(InvalidMode, value, table.ask, 1, "a", value)

    def test_all_errors_are_of_the_package(self):
        for call in (lambda: self.table().ask(2, "a", "s"), lambda: LockTable(5)):
            with self.assertRaises(StuckError):
                call()


class Copies(Base):

    def table(self):
        table = held(LockTable(standard()), [(1, "a", "is"), (2, "a", "s"), (0, "b", "x"), (1, ("t", 1), "x")])
        for owner, item, mode in [(1, "a", "ix"), (3, "a", "s"), (4, "a", "x"), (2, "b", "x")]:
            self.assertIs(table.ask(owner, item, mode), False)
        return table

    def test_a_copy_stands_as_its_table_does(self):
        self.assertEqual(all_told(self.table().copied()), all_told(self.table()))
        self.assertIsInstance(self.table().copied(), LockTable)
        table = held(LockTable(TWO), [(1, "a", "s"), (1, "b", "s")])
        table.let_go(1, "a")
        held(table, [(1, "a", "s")])
        self.assertEqual(table.copied().copied().holds_of(1), [("b", "s"), ("a", "s")])
        self.raises(InvalidMode, "ix", table.copied().ask, 1, "a", "ix")

    def changes(self, table):
        """Asks, frees and ends of many a kind."""
        return [
            lambda: table.ask(5, "b", "is"), lambda: table.ask(0, "b", "x"), lambda: table.ask(0, ("t", 1), "s"),
            lambda: table.ask(5, ("t", 2), "s"), lambda: table.let_go(0, "b"), lambda: table.finish(0),
            lambda: table.finish(1), lambda: table.finish(2), lambda: table.finish(3), lambda: table.finish(4),
        ]

    def test_neither_is_changed_with_the_other(self):
        for place in range(10):
            table = self.table()
            other = table.copied()
            self.changes(table)[place]()
            self.assertEqual(all_told(other), all_told(self.table()))
            table = self.table()
            other = table.copied()
            self.changes(other)[place]()
            self.assertEqual(all_told(table), all_told(self.table()))

    def test_results_are_new(self):
        table = self.table()
        calls = [
            lambda: table.holds_of(1), lambda: table.holders_at("a"), lambda: table.waiters_at("a"),
            lambda: table.waits_for(4), lambda: table.finish(9),
        ]
        ring = ring_of(2)
        calls += [lambda: ring.stuck_owners(), lambda: ring.waiting_ring(), lambda: ring.least_victims({0: 1, 1: 1})]
        for call in calls:
            first = call()
            kept = list(first)
            first.append(5)
            first.reverse()
            self.assertEqual(call(), kept)
        self.assertEqual(all_told(table), all_told(self.table()))
        granted = self.table()
        granted.let_go(0, "b").clear()
        self.assertEqual(granted.holders_at("b"), [(2, "x")])

    def test_only_three_methods_change_it(self):
        table = self.table()
        kept = all_told(table)
        for _ in range(2):
            table.stuck_owners(), table.waiting_ring(), table.copied(), table.least_victims({})
            table.holds_of(8), table.holders_at("z"), table.waiters_at("z"), table.ask_of(8), table.waits_for(8)
        self.assertEqual(all_told(table), kept)


if __name__ == "__main__":
    unittest.main()
