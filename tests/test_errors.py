"""Point 4 and the interface of factorforge/errors.py."""

import inspect
import unittest

from factorforge import errors

NAMES = ["NoOver", "NoPrime", "NoPower", "Nought", "HasParts", "BadLift", "BadProduct", "BadAsk", "BadText"]


def made(name, place=0):
    """An error of that class; what BadText takes besides its place is not promised."""
    error_class = getattr(errors, name)
    if name != "BadText":
        return error_class("some words")
    wanted = list(inspect.signature(error_class).parameters)
    return error_class(*[place if word == "place" else "some words" for word in wanted])


class TestErrors(unittest.TestCase):
    def test_forge_error_stands_under_value_error(self):
        self.assertTrue(issubclass(errors.ForgeError, ValueError))
        self.assertIsNot(errors.ForgeError, ValueError)

    def test_each_refusal_stands_under_forge_error(self):
        for name in NAMES:
            with self.subTest(name):
                error_class = getattr(errors, name)
                self.assertTrue(issubclass(error_class, errors.ForgeError))
                self.assertTrue(issubclass(error_class, ValueError))
                self.assertIsNot(error_class, errors.ForgeError)

    def test_no_refusal_stands_under_another_one(self):
        for name in NAMES:
            for other in NAMES:
                if name != other:
                    with self.subTest(name=name, other=other):
                        self.assertFalse(issubclass(getattr(errors, name), getattr(errors, other)))

    def test_each_refusal_is_taken_as_itself_and_as_what_it_stands_under(self):
        for name in NAMES:
            for wide in (getattr(errors, name), errors.ForgeError, ValueError):
                with self.subTest(name=name, wide=wide):
                    with self.assertRaises(wide):
                        raise made(name)

    def test_forge_error_is_itself_no_refusal(self):
        for name in NAMES:
            self.assertNotIsInstance(errors.ForgeError("some words"), getattr(errors, name))

    def test_bad_text_has_its_place(self):
        for place in (0, 1, 7, 4000):
            error = made("BadText", place)
            self.assertEqual(error.place, place)
            self.assertIs(error.place.__class__, int)

    def test_each_bad_text_has_a_place_of_its_own(self):
        one = made("BadText", 3)
        other = made("BadText", 5)
        self.assertEqual((one.place, other.place), (3, 5))


if __name__ == "__main__":
    unittest.main()
