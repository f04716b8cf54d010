"""Tests of the errors about parameters [2], for all functions that have some."""

import unittest
from itertools import combinations

import reference
import samples
import wishedtongues.catalogs as catalogs
import wishedtongues.compare as compare
import wishedtongues.doors as doors
import wishedtongues.errors as errors
import wishedtongues.least as least
import wishedtongues.pages as pages
import wishedtongues.trees as trees
import wishedtongues.words as words
from samples import BUNDLED, KEYED, TREE

ERRORS = {
    "tree": errors.InvalidTree,
    "locale": errors.InvalidLocale,
    "wishes": errors.InvalidWishes,
    "other_wishes": errors.InvalidWishes,
    "way": errors.InvalidWay,
    "catalog": errors.InvalidCatalog,
    "other_catalog": errors.InvalidCatalog,
    "key": errors.InvalidKey,
    "text": errors.InvalidText,
    "longest": errors.InvalidChoice,
    "most": errors.InvalidChoice,
    "page": errors.InvalidPage,
    "door": errors.InvalidDoor,
    "doors": errors.InvalidDoor,
}

VALID = {
    "tree": TREE, "locale": 2, "wishes": (2, 0, 3), "other_wishes": (1, 3), "way": "key",
    "catalog": KEYED, "other_catalog": KEYED, "key": 1, "text": 4, "longest": 3, "most": 7,
    "value": 1, "page": (0, 1), "door": ("swap", ((0, 2), (3, 1))), "doors": (("only", (1,)), ("pad", (0,))),
}

# What is right where TREE is the tree and KEYED the catalog.
RIGHT = {
    "tree": reference.is_tree,
    "locale": lambda value: reference.is_locale(TREE, value),
    "wishes": lambda value: reference.is_wishes(TREE, value),
    "other_wishes": lambda value: reference.is_wishes(TREE, value),
    "way": lambda value: type(value) is str and value in ("key", "bundle"),
    "catalog": reference.is_catalog,
    "other_catalog": reference.is_catalog,
    "key": lambda value: reference.is_key(KEYED, value),
    "text": reference.is_text,
    "longest": lambda value: reference.is_whole(value) and 0 <= value <= 10,
    "most": lambda value: reference.is_whole(value) and 1 <= value <= 1000,
    "page": lambda value: reference.is_page(KEYED, value),
    "door": lambda value: reference.is_door(TREE, value),
    "doors": lambda value: type(value) is tuple and all(reference.is_door(TREE, door) for door in value),
}

SIGNATURES = [
    (trees.is_locale, ("tree", "value")),
    (trees.is_wishes, ("tree", "value")),
    (trees.path, ("tree", "locale")),
    (trees.tongue, ("tree", "locale")),
    (trees.slim, ("tree", "wishes")),
    (trees.looked, ("tree", "wishes")),
    (trees.same_wishes, ("tree", "wishes", "other_wishes")),
    (trees.count_slim, ("tree",)),
    (catalogs.entries, ("catalog",)),
    (catalogs.own_text, ("catalog", "locale", "key")),
    (catalogs.is_skipped, ("catalog", "locale")),
    (catalogs.shown, ("catalog", "wishes", "key")),
    (catalogs.place, ("catalog", "wishes", "key")),
    (catalogs.chosen, ("catalog", "wishes")),
    (catalogs.shown_row, ("catalog", "wishes")),
    (catalogs.with_text, ("catalog", "locale", "key", "text")),
    (catalogs.laid_over, ("catalog", "other_catalog")),
    (catalogs.same_here, ("catalog", "wishes", "other_wishes")),
    (catalogs.shortened, ("catalog", "wishes")),
    (catalogs.parting_catalog, ("tree", "way", "wishes", "other_wishes")),
    (compare.alike, ("catalog", "other_catalog")),
    (compare.parting, ("catalog", "other_catalog")),
    (compare.within, ("catalog", "other_catalog")),
    (compare.lacking, ("catalog", "other_catalog")),
    (least.needless, ("catalog",)),
    (least.is_least, ("catalog",)),
    (least.least, ("catalog",)),
    (least.count_least, ("catalog",)),
    (pages.mixes, ("catalog", "wishes", "page")),
    (pages.mixing, ("catalog", "page")),
    (pages.fewest_added, ("catalog", "page")),
    (pages.completed, ("catalog", "page", "text")),
    (doors.is_door, ("tree", "value")),
    (doors.Doors.of, ("tree", "doors")),
    (words.write_wishes, ("tree", "wishes")),
    (words.write_tree, ("tree",)),
    (words.write_catalog, ("catalog",)),
    (words.write_door, ("tree", "door")),
]


def listed(tree, **choices):
    """The slim lists, so that its errors come by the call."""
    return list(trees.slim_lists(tree, **choices))


def listed_least(catalog, **choices):
    """The least catalogs, so that its errors come by the call."""
    return list(least.least_catalogs(catalog, **choices))


BY_NAME = SIGNATURES + [
    (listed, ("tree", "longest", "most")),
    (listed_least, ("catalog", "most")),
]


def is_right(function, name, value):
    """Whether the value may be passed to this parameter of the function."""
    if function is catalogs.with_text and name == "text" and value is None:
        return True
    return RIGHT[name](value)


def wrong_values(function, name):
    """Values of all kinds that are wrong for this parameter."""
    values = samples.any_values() + samples.changed(VALID[name])
    return [value for value in values if not is_right(function, name, value)]


def few_wrong_values(function, name):
    """Values that are wrong in ways of which other parameters allow some."""
    values = (True, -1, 10, "key ", [], [0], (-1,), (True,), None, KEYED)
    return [value for value in values if not is_right(function, name, value)]


class Wrong(unittest.TestCase):
    def assert_raises(self, error, function, given):
        before = repr(list(given.values()))
        with self.assertRaises(errors.WishError) as caught:
            function(**given)
        self.assertIs(type(caught.exception), error, (function, given))
        self.assertIsInstance(caught.exception, ValueError)
        self.assertEqual(repr(list(given.values())), before)

    def test_the_valid_ones_raise_nothing(self):
        for function, names in SIGNATURES:
            function(*[VALID[name] for name in names])
            function(**{name: VALID[name] for name in reversed(names)})
        self.assertEqual(len(listed(TREE, longest=3, most=7)), 7)
        self.assertEqual(listed_least(KEYED, most=7), [KEYED])

    def test_each_parameter_in_turn(self):
        for function, names in BY_NAME:
            for name in names:
                if name != "value":
                    for value in wrong_values(function, name):
                        given = {other: VALID[other] for other in names}
                        given[name] = value
                        self.assert_raises(ERRORS[name], function, given)

    def test_by_position(self):
        for function, names in SIGNATURES:
            for at, name in enumerate(names):
                if name != "value":
                    for value in few_wrong_values(function, name):
                        given = [VALID[other] for other in names]
                        given[at] = value
                        with self.assertRaises(ERRORS[name]):
                            function(*given)

    def test_of_several_wrong_ones_the_first_counts(self):
        for function, names in BY_NAME:
            names_with_errors = [name for name in names if name != "value"]
            for first, second in combinations(names_with_errors, 2):
                for value in few_wrong_values(function, first):
                    for other_value in few_wrong_values(function, second):
                        given = {second: other_value, first: value}
                        for name in names:
                            given.setdefault(name, VALID[name])
                        self.assert_raises(ERRORS[first], function, given)

    def test_all_wrong(self):
        for function, names in BY_NAME:
            given = {name: "wrong" for name in reversed(names)}
            self.assert_raises(ERRORS[names[0]], function, given)

    def test_the_errors_of_slim_lists_come_at_the_first_step_at_last(self):
        for choices, error in (
            ({"tree": [None]}, errors.InvalidTree),
            ({"tree": TREE, "longest": 11}, errors.InvalidChoice),
            ({"tree": TREE, "longest": -1}, errors.InvalidChoice),
            ({"tree": TREE, "longest": True}, errors.InvalidChoice),
            ({"tree": TREE, "longest": None}, errors.InvalidChoice),
            ({"tree": TREE, "most": 0}, errors.InvalidChoice),
            ({"tree": TREE, "most": 1001}, errors.InvalidChoice),
            ({"tree": TREE, "most": True}, errors.InvalidChoice),
            ({"tree": TREE, "most": "1"}, errors.InvalidChoice),
        ):
            with self.assertRaises(error):
                next(iter(trees.slim_lists(**choices)))

    def test_the_edges_of_the_numbers(self):
        self.assertEqual(listed((None,), longest=0, most=1), [()])
        self.assertEqual(listed((None,), longest=10, most=1000), [()])


class OfTheTree(unittest.TestCase):
    """Locales, wish lists and keys are those of the tree and the catalog at hand."""

    def test_locales(self):
        for tree in ((None,), (None, 0), TREE, samples.FLAT_TEN):
            many = len(tree)
            catalog = (tree, "key", ((None,),) * many)
            trees.path(tree, many - 1)
            catalogs.own_text(catalog, many - 1, 0)
            for wrong in (many, many + 1, -1, -many, 10 ** 30):
                for call in (
                    lambda: trees.path(tree, wrong),
                    lambda: trees.tongue(tree, wrong),
                    lambda: catalogs.own_text(catalog, wrong, 0),
                    lambda: catalogs.is_skipped(catalog, wrong),
                    lambda: catalogs.with_text(catalog, wrong, 0, 1),
                ):
                    with self.assertRaises(errors.InvalidLocale):
                        call()

    def test_wishes(self):
        for tree in ((None,), (None, 0), TREE, samples.FLAT_TEN):
            many = len(tree)
            catalog = (tree, "bundle", ((None,),) * many)
            self.assertEqual(trees.slim(tree, (many - 1, 0)), (many - 1,) if many > 1 else ())
            for wrong in ((many,), (0, many), (many - 1, -1), (0,) * 39 + (many,), [0], (False,)):
                for call in (
                    lambda: trees.slim(tree, wrong),
                    lambda: trees.looked(tree, wrong),
                    lambda: trees.same_wishes(tree, wrong, ()),
                    lambda: trees.same_wishes(tree, (), wrong),
                    lambda: catalogs.shown(catalog, wrong, 0),
                    lambda: catalogs.place(catalog, wrong, 0),
                    lambda: catalogs.chosen(catalog, wrong),
                    lambda: catalogs.shown_row(catalog, wrong),
                    lambda: catalogs.same_here(catalog, wrong, ()),
                    lambda: catalogs.same_here(catalog, (), wrong),
                    lambda: catalogs.shortened(catalog, wrong),
                    lambda: catalogs.parting_catalog(tree, "key", wrong, ()),
                    lambda: catalogs.parting_catalog(tree, "key", (), wrong),
                ):
                    with self.assertRaises(errors.InvalidWishes):
                        call()

    def test_keys(self):
        for many in range(1, 5):
            catalog = ((None, 0), "key", ((None,) * many,) * 2)
            self.assertIs(catalogs.shown(catalog, (), many - 1), None)
            for wrong in (many, many + 1, -1, 10 ** 30, False, None, "0"):
                for call in (
                    lambda: catalogs.shown(catalog, (), wrong),
                    lambda: catalogs.place(catalog, (), wrong),
                    lambda: catalogs.own_text(catalog, 1, wrong),
                    lambda: catalogs.with_text(catalog, 1, wrong, 1),
                    lambda: catalogs.with_text(catalog, 1, wrong),
                ):
                    with self.assertRaises(errors.InvalidKey):
                        call()

    def test_texts(self):
        for wrong in (-1, 10, True, False, "1", (), [], (1,), 10 ** 30, BUNDLED):
            with self.assertRaises(errors.InvalidText):
                catalogs.with_text(BUNDLED, 0, 0, wrong)
        for text in (None, 0, 9):
            self.assertEqual(catalogs.with_text(BUNDLED, 0, 0, text)[2][0][0], text)

    def test_unlike_goes_behind_the_errors_of_the_parameters(self):
        small = ((None,), "key", ((1,),))
        with self.assertRaises(errors.Unlike):
            catalogs.laid_over(KEYED, small)
        with self.assertRaises(errors.InvalidCatalog):
            catalogs.laid_over(KEYED, list(small))
        with self.assertRaises(errors.InvalidCatalog):
            catalogs.laid_over(list(KEYED), small)


if __name__ == "__main__":
    unittest.main()
