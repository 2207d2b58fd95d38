import random
import unittest

from chance import any_system
from samples import LOCK_PQ, ODD, ONE_WAY, ONLY_X, PAIR, TWO, UP, changed, greatest_system, system_of
from stuckrows.errors import InvalidModes, InvalidSystem, InvalidTemplate, InvalidText
from stuckrows.modes import standard
from stuckrows.texts import read_system, system_text

STEPS = (("lock", "g", "x"), ("lock", "p", "s"), ("free", "p"), ("lock", "q", "s"))
FULL = (TWO, ("f", "g"), (("a", PAIR, (("p", "q"), ("p", "q")), STEPS), ("b", (), (), (("lock", "f", "x"), ("free", "f")))))
ROWS = [
    "modes s x", "allow s s", "join s x x", "fixed f g", "template a", "param p acc", "param q acc", "order p q",
    "order p q", "lock g x", "lock p s", "free p", "lock q s", "template b", "lock f x", "free f",
]
# Each name is a word with which rows begin.
WORDS = (
    (("modes", "allow"), (), (("modes", "allow", "allow"),)), ("fixed", "template"),
    (("template", (("param", "order"), ("order", "order")), (("order", "param"),), (("lock", "fixed", "modes"), ("free", "fixed"))),),
)


class Plainly:
    """The form of a text, told row by row: which rows can stand where."""

    names = {"modes": None, "allow": 2, "join": 3, "fixed": None, "template": 1, "param": 2, "order": 2, "lock": 2, "free": 1}

    @staticmethod
    def is_row(row):
        words = row.split(" ")
        if not all(1 <= len(word) <= 12 and set(word) <= set("abcdefghijklmnopqrstuvwxyz") for word in words):
            return False
        if words[0] not in Plainly.names:
            return False
        count = Plainly.names[words[0]]
        return len(words) > 1 if count is None else len(words) == count + 1

    @staticmethod
    def place(text):
        """The place that InvalidText tells, None if the form is right."""
        rows = text.split("\n")
        stage = "begin"
        for place, row in enumerate(rows):
            word = row.split(" ")[0]
            if not Plainly.is_row(row):
                return place
            if stage == "begin":
                right = word == "modes"
            elif stage in ("modes", "allow"):
                right = word in ("allow", "join", "fixed", "template")
            elif stage == "join":
                right = word in ("join", "fixed", "template")
            elif stage == "fixed":
                right = word == "template"
            elif stage in ("template", "param"):
                right = word in ("param", "order", "lock", "free")
            elif stage == "order":
                right = word in ("order", "lock", "free")
            else:
                right = word in ("lock", "free", "template")
            if not right:
                return place
            stage = word
        return None if stage in ("lock", "free") else len(rows)


class SystemText(unittest.TestCase):

    def test_example(self):
        text = system_text((TWO, (), (("a", (("p", "acc"),), (), (("lock", "p", "x"),)),)))
        self.assertEqual(text, "modes s x\nallow s s\njoin s x x\ntemplate a\nparam p acc\nlock p x")

    def test_all_rows(self):
        self.assertEqual(system_text(FULL), "\n".join(ROWS))
        self.assertEqual(system_text(system=(ONLY_X, (), (UP,))), "\n".join([
            "modes x", "template up", "param p acc", "param q acc", "order p q", "lock p x", "lock q x",
        ]))

    def test_the_order_of_pairs_and_triples_is_kept(self):
        names, allowed, joins = standard()
        text = system_text(((names, allowed[::-1], joins[::-1]), ("f",), (("a", (), (), (("lock", "f", "is"),)),)))
        rows = text.split("\n")
        self.assertEqual(rows[1:14], ["allow " + " ".join(pair) for pair in allowed[::-1]])
        self.assertEqual(rows[14:29], ["join " + " ".join(row) for row in joins[::-1]])

    def test_errors_of_a_system(self):
        for value in ODD:
            with self.assertRaises(InvalidSystem) as caught:
                system_text(value)
            self.assertEqual(caught.exception.part, "form")
        with self.assertRaises(InvalidTemplate) as caught:
            system_text((TWO, (), (UP, changed(UP, 0, "down")[:3] + (LOCK_PQ + (("free", "z"),),))))
        self.assertEqual((caught.exception.template, caught.exception.step), (1, 2))


class ReadSystem(unittest.TestCase):

    def wrong(self, place, text):
        with self.assertRaises(InvalidText) as caught:
            read_system(text)
        self.assertEqual(caught.exception.place, place)

    def wrong_rows(self, place, rows):
        self.wrong(place, "\n".join(rows))

    def test_example(self):
        self.wrong(1, "modes s x\nallow s x x")

    def test_both_ways(self):
        chance = random.Random(3)
        systems = [FULL, WORDS, greatest_system(), system_of(UP, modes=ONE_WAY)]
        for system in systems + [any_system(chance, 6, 4, (4, 8, 3)) for _ in range(60)]:
            text = system_text(system)
            self.assertEqual(read_system(text=text), system)
            self.assertEqual(system_text(read_system(text)), text)

    def test_what_is_no_text(self):
        for value in [value for value in ODD if not isinstance(value, str)] + [ROWS, "\n".join(ROWS).encode()]:
            self.wrong(-1, value)

    def test_words_and_blanks(self):
        for row in [
            "", " ", "lock g x ", " lock g x", "lock  g x", "lock g  x", "lock\tg x", "lock g x\r", "Lock g x", "lock g X",
            "lock g abcdefghijklm", "lock g x1", "lock g \u00e9", "lock g", "lock g x x", "lock", "take g x", "locks g x",
            "abcdefghijklm g x", "lock g x\u2028lock g x", "lock g x\x0bfree g", "lock,g,x", "lock g x\x00",
        ]:
            self.wrong_rows(9, ROWS[:9] + [row] + ROWS[10:])
        self.wrong(0, "modes s x\r\nallow s s")
        for value in [value for value in ODD if isinstance(value, str)]:
            self.wrong(0, value)

    def test_how_many_words(self):
        right = {"modes": range(2, 40), "fixed": range(2, 40), "template": [2], "free": [2], "join": [4]}
        before = {
            "modes": [], "allow": ["modes s"], "join": ["modes s"], "fixed": ["modes s"], "template": ["modes s"],
            "param": ["modes s", "template a"], "order": ["modes s", "template a"], "lock": ["modes s", "template a"],
            "free": ["modes s", "template a"],
        }
        for word, rows in before.items():
            for count in range(1, 7):
                row = " ".join([word] + ["a"] * (count - 1))
                place = len(rows) + (count in right.get(word, [3]))
                # Behind a right row something else is wrong: the text goes on with what cannot follow.
                self.wrong_rows(place, rows + [row, "nothing"])

    def test_which_row_can_follow_which(self):
        rows = {word: " ".join([word] + ["a"] * (Plainly.names[word] or 1)) for word in Plainly.names}
        ways = {
            "modes": [], "allow": ["modes"], "join": ["modes"], "fixed": ["modes"], "template": ["modes"],
            "param": ["modes", "template"], "order": ["modes", "template"], "lock": ["modes", "template"],
            "free": ["modes", "template"],
        }
        for word in ways:
            self.wrong_rows(1 if word == "modes" else 0, [rows[word], ""])
        for before, way in ways.items():
            for word in ways:
                text = [rows[name] for name in way + [before, word]]
                self.wrong_rows(Plainly.place("\n".join(text + [""])), text + [""])

    def test_the_text_ends_too_early(self):
        for count in list(range(1, 10)) + [14]:
            self.wrong_rows(count, ROWS[:count])
        self.wrong(0, "")
        self.wrong(1, "modes s x")
        self.wrong(len(ROWS) + 1, "\n".join(ROWS + ["template c"]))

    def test_empty_rows(self):
        for place in range(len(ROWS) + 1):
            self.wrong_rows(place, ROWS[:place] + [""] + ROWS[place:])
        self.wrong(len(ROWS), "\n".join(ROWS) + "\n")
        self.wrong(0, "\n")

    def test_the_first_wrong_row_is_told(self):
        self.wrong_rows(2, ["modes s", "template a", "lock p", "what", ""])
        # What the rows tell together is looked at when all of them can stand there.
        self.wrong_rows(3, ["modes s s", "template a", "lock p z", ""])

    def test_errors_of_a_system(self):
        for error, values, rows in [
            (InvalidModes, {"part": "names"}, ["modes s s"] + ROWS[1:]),
            (InvalidModes, {"part": "names"}, ["modes a b c d e f g"] + ROWS[1:]),
            (InvalidModes, {"part": "allowed"}, ROWS[:1] + ["allow s y"] + ROWS[2:]),
            (InvalidModes, {"part": "allowed"}, ROWS[:2] + ["allow s s"] + ROWS[2:]),
            (InvalidModes, {"part": "joins"}, ROWS[:2] + ROWS[3:]),
            (InvalidModes, {"part": "exact"}, ROWS[:1] + ["allow x s"] + ROWS[2:]),
            (InvalidSystem, {"part": "fixed"}, ROWS[:3] + ["fixed f g f"] + ROWS[4:]),
            (InvalidSystem, {"part": "fixed"}, ROWS[:3] + ["fixed a b c d e"] + ROWS[4:]),
            (InvalidSystem, {"part": "templates"}, ROWS + ["template c", "lock f s"] * 5),
            (InvalidTemplate, {"template": 0, "step": -1}, ROWS[:5] + ROWS[6:]),
            (InvalidTemplate, {"template": 0, "step": -1}, ROWS[:8] + ["order q p"] + ROWS[9:]),
            (InvalidTemplate, {"template": 0, "step": -1}, ROWS[:13] + ["lock g s"] * 5 + ROWS[13:]),
            (InvalidTemplate, {"template": 1, "step": -1}, ROWS[:13] + ["template a"] + ROWS[14:]),
            (InvalidTemplate, {"template": 1, "step": 0}, ROWS[:14] + ROWS[15:]),
            (InvalidTemplate, {"template": 0, "step": 3}, ROWS[:12] + ["lock p s"] + ROWS[13:]),
        ]:
            with self.assertRaises(error) as caught:
                read_system("\n".join(rows))
            self.assertEqual(caught.exception.__dict__, values)

    def test_fixed_items_none_and_four(self):
        system = read_system("modes x\nfixed a b c d\ntemplate t\nlock d x")
        self.assertEqual(system[1], ("a", "b", "c", "d"))
        self.assertEqual(read_system("modes x\ntemplate t\nparam d u\nlock d x"), (ONLY_X, (), (
            ("t", (("d", "u"),), (), (("lock", "d", "x"),)),
        )))

    def test_an_order_can_stand_behind_the_template_at_once(self):
        with self.assertRaises(InvalidTemplate) as caught:
            read_system("modes x\ntemplate t\norder p q\nlock p x")
        self.assertEqual((caught.exception.template, caught.exception.step), (0, -1))

    def test_texts_with_one_row_changed(self):
        chance = random.Random(4)
        told = set()
        texts = [ROWS] + [system_text(any_system(chance, 3, 2, (3, 4, 2))).split("\n") for _ in range(12)]
        for rows in texts:
            for place in range(len(rows)):
                others = [rows[:place] + rows[place + 1:], rows[:place + 1] + rows[place:]]
                others += [rows[:place] + [row] + rows[place + 1:] for row in ROWS + ["", rows[place] + " a", "modes"]]
                for other in others:
                    text = "\n".join(other)
                    wanted = Plainly.place(text)
                    told.add(wanted is None)
                    if wanted is not None:
                        self.wrong(wanted, text)
                    else:
                        self.same_or_no_system(text)
        self.assertEqual(told, {True, False})

    def same_or_no_system(self, text):
        """A text of the right form is read as it stands, or tells no system."""
        try:
            system = read_system(text)
        except (InvalidModes, InvalidSystem, InvalidTemplate):
            return
        self.assertEqual(system_text(system), text)

    def test_a_long_text(self):
        rows = ["modes s x"] + ["allow s s"] * 20000 + ["template a", "lock p s"]
        with self.assertRaises(InvalidModes) as caught:
            read_system("\n".join(rows))
        self.assertEqual(caught.exception.part, "allowed")


if __name__ == "__main__":
    unittest.main()
