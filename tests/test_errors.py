import unittest

from samples import ODD
from stuckrows import errors
from stuckrows.errors import StuckError

LISTED = {
    "InvalidModes": ("part",), "InvalidSystem": ("part",), "InvalidTemplate": ("template", "step"),
    "InvalidInstances": ("index",), "InvalidSchedule": ("index",), "InvalidOwner": ("owner",),
    "InvalidItem": ("item",), "InvalidMode": ("mode",), "InvalidText": ("place",), "InvalidLimits": ("index",),
    "InvalidPrices": ("name",), "InvalidNumber": ("name",), "Waiting": ("owner",), "NotHeld": ("item",),
    "Mismatch": ("name",), "TooLarge": ("limit",),
}


class Errors(unittest.TestCase):

    def test_the_base_is_a_value_error(self):
        self.assertTrue(issubclass(StuckError, ValueError))

    def test_sixteen_errors_are_direct_subclasses(self):
        self.assertEqual(len(LISTED), 16)
        for name in LISTED:
            self.assertEqual(getattr(errors, name).__bases__, (StuckError,), name)

    def test_attributes_by_position_and_by_keyword(self):
        for name, words in LISTED.items():
            values = [object() for _ in words]
            error_class = getattr(errors, name)
            for error in (error_class(*values), error_class(**dict(zip(words, values)))):
                for word, value in zip(words, values):
                    self.assertIs(getattr(error, word), value)

    def test_creating_never_fails_whatever_the_values_are(self):
        endless = []
        endless.append(endless)
        deep = []
        for _ in range(100000):
            deep = [deep]
        for value in ODD + [endless, deep, -10 ** 6000, "\ud800"]:
            for name, words in LISTED.items():
                error = getattr(errors, name)(*[value for _ in words])
                for word in words:
                    self.assertIs(getattr(error, word), value)
                self.assertIsInstance(str(error), str)
                self.assertIsInstance(repr(error), str)

    def test_too_few_and_too_many_values(self):
        for name, words in LISTED.items():
            for count in (len(words) - 1, len(words) + 1):
                with self.assertRaises(TypeError):
                    getattr(errors, name)(*range(count))

    def test_they_are_caught_as_the_base(self):
        with self.assertRaises(StuckError):
            raise errors.InvalidTemplate(template=1, step=2)


if __name__ == "__main__":
    unittest.main()
