import unittest
from itertools import product

from chance import symmetric_modes
from samples import ODD, ONE_WAY, ONLY_S, ONLY_X, TWO, changed
from stuckrows.errors import InvalidMode, InvalidModes
from stuckrows.modes import check_modes, is_symmetric, joined, may_stand, standard


class CheckModes(unittest.TestCase):

    def test_examples(self):
        self.assertIsNone(check_modes(TWO))
        self.assertEqual(check_modes((("s", "x"), (("s", "s"), ("x", "s")), (("s", "x", "s"),))), "exact")

    def test_one_mode_and_six(self):
        for modes in (ONLY_X, ONLY_S, ONE_WAY, standard()):
            self.assertIsNone(check_modes(modes=modes))

    def test_names_of_twelve_letters(self):
        self.assertIsNone(check_modes((("abcdefghijkl", "z"), (), (("abcdefghijkl", "z", "z"),))))
        self.assertEqual(check_modes((("abcdefghijklm",), (), ())), "names")

    def test_form(self):
        for value in ODD + [TWO[:2], TWO + ((),), list(TWO)]:
            self.assertEqual(check_modes(value), "form")

    def test_names(self):
        wrong = [(), ("s", "s"), ["s", "x"], ("s", "X"), ("s", ""), ("s", "x1"), ("s", "\u00e4"), tuple("abcdefg")]
        for names in wrong + [value for value in ODD if value != ()] + [("s", value) for value in ODD]:
            self.assertEqual(check_modes((names, (), ())), "names")

    def test_allowed(self):
        wrong = [[("s", "s")], (("s",),), (("s", "s", "s"),), (["s", "s"],), (("s", "y"),), (("s", "s"), ("s", "s"))]
        for allowed in wrong + [value for value in ODD if value != ()] + [((value, "s"),) for value in ODD]:
            self.assertEqual(check_modes(changed(TWO, 1, allowed)), "allowed")

    def test_joins(self):
        wrong = [
            (), [("s", "x", "x")], (["s", "x", "x"],), (("x", "s", "x"),), (("s", "x"),), (("s", "s", "s"),),
            (("s", "x", "x"), ("s", "x", "x")), (("s", "x", "y"),), (("s", "x", "x"), ("s", "s", "s")),
        ]
        for joins in wrong + ODD + [(("s", "x", value),) for value in ODD]:
            self.assertEqual(check_modes(changed(TWO, 2, joins)), "joins")

    def test_joins_in_any_order(self):
        names, allowed, joins = standard()
        self.assertIsNone(check_modes((names, allowed[::-1], joins[::-1])))
        self.assertEqual(check_modes((names[::-1], allowed, joins)), "joins")
        self.assertEqual(check_modes((names, allowed, joins[1:])), "joins")

    def test_the_first_wrong_part_is_told(self):
        self.assertEqual(check_modes(((), 1, 2)), "names")
        self.assertEqual(check_modes((("s",), 1, 2)), "allowed")
        self.assertEqual(check_modes((("s",), (), 2)), "joins")

    def test_exact_as_held_and_as_asked(self):
        # As held, the join b allows a, which a does not; as asked, all is well.
        self.assertEqual(check_modes((("a", "b"), (("b", "a"),), (("a", "b", "b"),))), "exact")
        # As asked, the join b is allowed by a, where a is not; as held, all is well.
        self.assertEqual(check_modes((("a", "b"), (("a", "b"),), (("a", "b", "b"),))), "exact")
        self.assertIsNone(check_modes((("a", "b"), (("a", "a"), ("b", "a")), (("a", "b", "b"),))))
        self.assertIsNone(check_modes((("a", "b"), (("a", "a"),), (("a", "b", "b"),))))

    def test_joins_of_three_do_not_depend_on_their_order(self):
        names = ("a", "b", "c")
        # Nothing is allowed, so only the joins can be wrong.
        circle = (("a", "b", "b"), ("b", "c", "c"), ("a", "c", "a"))
        self.assertEqual(check_modes((names, (), circle)), "exact")
        # The join of a and b is c, and that of a, a and b is not.
        equal_ones = (("a", "b", "c"), ("a", "c", "b"), ("b", "c", "c"))
        self.assertEqual(check_modes((names, (), equal_ones)), "exact")
        self.assertIsNone(check_modes((names, (), (("a", "b", "c"), ("a", "c", "c"), ("b", "c", "c")))))

    def test_against_the_definition(self):
        names = ("a", "b", "c")
        pairs = list(product(names, repeat=2))
        for flags in product((False, True), repeat=4):
            allowed = tuple(pair for pair, flag in zip(pairs[2:6], flags) if flag) + (("a", "a"),)
            for row in product(names, repeat=3):
                joins = (("a", "b", row[0]), ("a", "c", row[1]), ("b", "c", row[2]))
                told = check_modes((names, allowed, joins))
                self.assertEqual(told, None if exact_by_definition(names, allowed, joins) else "exact")


def exact_by_definition(names, allowed, joins):
    table = {(m, m): m for m in names}
    for m, n, j in joins:
        table[m, n] = table[n, m] = j
    for m, n, k in product(names, repeat=3):
        if ((table[m, n], k) in allowed) != ((m, k) in allowed and (n, k) in allowed):
            return False
        if ((k, table[m, n]) in allowed) != ((k, m) in allowed and (k, n) in allowed):
            return False
        if len({table[table[m, n], k], table[table[m, k], n], table[table[n, k], m]}) > 1:
            return False
    return True


class Standard(unittest.TestCase):

    def test_example(self):
        told = [standard()[0], len(standard()[1]), len(standard()[2]), is_symmetric(standard())]
        self.assertEqual(told, [("is", "ix", "s", "u", "six", "x"), 13, 15, True])

    def test_what_is_allowed(self):
        names, allowed, _ = standard()
        table = {"is": "is ix s u six", "ix": "is ix", "s": "is s u", "u": "is s", "six": "is", "x": ""}
        wanted = tuple((held, asked) for held in names for asked in names if asked in table[held].split())
        self.assertEqual(allowed, wanted)

    def test_joins(self):
        names, _, joins = standard()
        wanted = []
        for place, m in enumerate(names):
            for n in names[place + 1:]:
                if m == "is" or n == "x":
                    wanted.append((m, n, n))
                else:
                    wanted.append((m, n, "u" if (m, n) == ("s", "u") else "six"))
        self.assertEqual(joins, tuple(wanted))


class IsSymmetric(unittest.TestCase):

    def test_ordinary(self):
        for modes in (TWO, ONLY_S, ONLY_X, *symmetric_modes(2)):
            self.assertIs(is_symmetric(modes), True)
        self.assertIs(is_symmetric(modes=ONE_WAY), False)

    def test_errors(self):
        for value in ODD:
            with self.assertRaises(InvalidModes) as caught:
                is_symmetric(value)
            self.assertEqual(caught.exception.part, "form")
        with self.assertRaises(InvalidModes) as caught:
            is_symmetric((("a", "b"), (("b", "a"),), (("a", "b", "b"),)))
        self.assertEqual(caught.exception.part, "exact")


class JoinedAndMayStand(unittest.TestCase):

    def test_example(self):
        told = [
            joined(standard(), ["s", "ix"]), may_stand(standard(), ["s", "u"]), may_stand(standard(), ["s", "ix"]),
        ]
        self.assertEqual(told, ["six", True, False])

    def test_joined(self):
        self.assertIsNone(joined(standard(), []))
        self.assertIsNone(joined(standard(), ()))
        self.assertEqual(joined(standard(), ["u"]), "u")
        self.assertEqual(joined(standard(), ("u", "u", "is")), "u")
        self.assertEqual(joined(modes=standard(), some=("u", "ix", "x")), "x")

    def test_may_stand(self):
        self.assertIs(may_stand(standard(), []), True)
        self.assertIs(may_stand(standard(), ("x",)), True)
        self.assertIs(may_stand(standard(), ["s", "is", "s", "u"]), True)
        self.assertIs(may_stand(standard(), ["u", "is", "u"]), False)
        self.assertIs(may_stand(modes=standard(), some=["six", "is", "is"]), True)

    def test_the_order_counts(self):
        self.assertIs(may_stand(ONE_WAY, ["x", "y"]), True)
        self.assertIs(may_stand(ONE_WAY, ["y", "x"]), False)
        self.assertIs(may_stand(ONE_WAY, ["x", "y", "y"]), True)
        self.assertIs(may_stand(ONE_WAY, ["x", "y", "x"]), False)

    def test_may_stand_against_the_definition(self):
        for modes in (standard(), ONE_WAY, TWO):
            for some in product(modes[0], repeat=3):
                pairs = [(some[0], some[1]), (some[0], some[2]), (some[1], some[2])]
                self.assertIs(may_stand(modes, some), all(pair in modes[1] for pair in pairs))

    def test_errors(self):
        for function in (joined, may_stand):
            for value in [value for value in ODD if not isinstance(value, (list, tuple))]:
                with self.assertRaises(InvalidMode) as caught:
                    function(TWO, value)
                self.assertIs(caught.exception.mode, value)
            for value in ODD:
                with self.assertRaises(InvalidMode) as caught:
                    function(TWO, ["s", value, "y"])
                self.assertIs(caught.exception.mode, value)
            with self.assertRaises(InvalidMode) as caught:
                function(TWO, ("s", "ix", "u"))
            self.assertEqual(caught.exception.mode, "ix")

    def test_modes_are_checked_first(self):
        for function in (joined, may_stand):
            with self.assertRaises(InvalidModes) as caught:
                function(some=5, modes=(("s",), (), 3))
            self.assertEqual(caught.exception.part, "joins")

    def test_arguments_stay(self):
        some = ["s", "u"]
        joined(standard(), some)
        may_stand(standard(), some)
        self.assertEqual(some, ["s", "u"])


if __name__ == "__main__":
    unittest.main()
