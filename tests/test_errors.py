"""Tests of wishedtongues.errors [10]."""

import inspect
import unittest

import wishedtongues.errors as errors

NAMES = (
    "InvalidTree", "InvalidLocale", "InvalidWishes", "InvalidWay", "InvalidCatalog",
    "InvalidKey", "InvalidText", "InvalidPage", "InvalidDoor", "InvalidChoice",
    "InvalidIndex", "Unlike", "Needless", "NothingThere", "NoBlock", "NothingToUndo",
    "InvalidCommand", "Mixed", "InvalidWords",
)
FIELDS = {"Mixed": "wishes", "InvalidWords": "place"}


class Errors(unittest.TestCase):
    def test_there_are_nineteen_beside_wish_error(self):
        found = [name for name, value in vars(errors).items() if inspect.isclass(value)]
        self.assertEqual(sorted(found), sorted(NAMES + ("WishError",)))
        self.assertEqual(len(NAMES), 19)

    def test_all_are_directly_under_wish_error(self):
        self.assertEqual(errors.WishError.__bases__, (ValueError,))
        for name in NAMES:
            self.assertEqual(getattr(errors, name).__bases__, (errors.WishError,), name)
            self.assertEqual(getattr(errors, name).__module__, "wishedtongues.errors", name)

    def test_each_is_made_with_one_string(self):
        for name in NAMES + ("WishError",):
            if name not in FIELDS:
                error = getattr(errors, name)("some words")
                self.assertEqual(str(error), "some words")

    def test_each_is_caught_as_itself_as_wish_error_and_as_value_error(self):
        for name in NAMES:
            made = getattr(errors, name)
            for caught in (made, errors.WishError, ValueError):
                with self.assertRaises(caught):
                    raise made("x")

    def test_none_is_caught_as_another_one(self):
        for name in NAMES:
            for other in NAMES:
                if other != name:
                    error = getattr(errors, name)("x")
                    self.assertNotIsInstance(error, getattr(errors, other))

    def test_mixed_keeps_its_wishes(self):
        self.assertEqual(errors.Mixed((1, 2)).wishes, (1, 2))
        self.assertEqual(errors.Mixed(wishes=()).wishes, ())
        with self.assertRaises(errors.Mixed) as caught:
            raise errors.Mixed((3,))
        self.assertEqual(caught.exception.wishes, (3,))

    def test_invalid_words_keeps_its_place(self):
        self.assertEqual(errors.InvalidWords(0).place, 0)
        self.assertEqual(errors.InvalidWords(place=7).place, 7)
        with self.assertRaises(errors.InvalidWords) as caught:
            raise errors.InvalidWords(12)
        self.assertEqual(caught.exception.place, 12)

    def test_two_errors_keep_each_its_own(self):
        first, second = errors.Mixed((1,)), errors.Mixed((2,))
        self.assertEqual((first.wishes, second.wishes), ((1,), (2,)))

    def test_fields_are_set_by_one_argument_alone(self):
        for name in FIELDS:
            for wrong in ((), (1, 2)):
                with self.assertRaises(TypeError):
                    getattr(errors, name)(*wrong)


if __name__ == "__main__":
    unittest.main()
