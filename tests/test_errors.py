"""The classes of errors in the interface."""

import unittest

from surehand import errors
from tests.helper import Angry, odd_lists, odd_things, shown

WITH_FIELD = {"NoShelf": "part", "NoProgram": "number", "NoWeb": "row", "NoRun": "number", "NoText": "row"}
OF_TEXT = ("TooMany", "Endless", "NoCost", "NoRow", "NoNames", "NoBack", "BadRow")
BESIDE = {"NoRoom": (LookupError, "room"), "NoStep": (IndexError, "to"), "NoName": (KeyError, "name")}


class TestErrors(unittest.TestCase):

    def test_the_head_is_a_value_error(self):
        self.assertEqual(errors.HandError.__bases__, (ValueError,))
        self.assertEqual(str(errors.HandError("why")), "why")

    def test_each_under_the_head_and_none_under_another(self):
        for name in [*WITH_FIELD, *OF_TEXT]:
            with self.subTest(name):
                self.assertEqual(getattr(errors, name).__bases__, (errors.HandError,))

    def test_beside_the_head(self):
        for name, (base, _) in BESIDE.items():
            with self.subTest(name):
                self.assertEqual(getattr(errors, name).__bases__, (base,))

    def test_nothing_else_is_a_class_there(self):
        found = {name for name, thing in vars(errors).items() if isinstance(thing, type)}
        self.assertEqual(found, {"HandError", *WITH_FIELD, *OF_TEXT, *BESIDE})

    def test_made_of_a_text(self):
        for name in OF_TEXT:
            with self.subTest(name):
                made = getattr(errors, name)("some words")
                self.assertEqual(str(made), "some words")
                with self.assertRaises(errors.HandError):
                    raise made

    def check_field(self, name, field):
        made_of = getattr(errors, name)
        for thing in [0, 7, "way", None, (1, 2), *odd_things(), *odd_lists()]:
            with self.subTest(name=name, thing=shown(thing)):
                by_place = made_of(thing)
                self.assertIs(getattr(by_place, field), thing)
                self.assertIsInstance(str(by_place), str)
                by_name = made_of(**{field: thing})
                self.assertIs(getattr(by_name, field), thing)

    def test_made_of_a_field(self):
        for name, field in WITH_FIELD.items():
            self.check_field(name, field)
        for name, (_, field) in BESIDE.items():
            self.check_field(name, field)

    def test_a_field_must_be_told(self):
        for name in [*WITH_FIELD, *BESIDE]:
            with self.subTest(name), self.assertRaises(TypeError):
                getattr(errors, name)()

    def test_caught_by_their_heads(self):
        for name, (base, field) in BESIDE.items():
            with self.subTest(name):
                thing = Angry()
                with self.assertRaises(base) as caught:
                    raise getattr(errors, name)(thing)
                self.assertIs(getattr(caught.exception, field), thing)
                self.assertNotIsInstance(caught.exception, errors.HandError)


if __name__ == "__main__":
    unittest.main()
