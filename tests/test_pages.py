"""Tests of wishedtongues.pages [7], [15], F8, F9."""

import unittest
from itertools import combinations

import reference
from samples import (
    BUNDLED, CATALOGS, CHAIN_TEN, EMPTY_ROOT, FLAT_TEN, FOUR_KEYS, FOUR_KEYS_BUNDLED, KEYED,
    LOW_ONLY, MIXED_TEN, NO_ENTRIES, ONE_LOCALE, ROOT_ALONE, TREE,
)
from wishedtongues.catalogs import is_catalog, with_text
from wishedtongues.errors import InvalidCatalog, InvalidPage, InvalidText, InvalidWishes
from wishedtongues.pages import completed, fewest_added, mixes, mixing

FORK = (None, 0, 0)


def pages_of(keys):
    """All pages of a catalog with so many keys."""
    return [page for many in range(1, keys + 1) for page in combinations(range(keys), many)]


def fewest_by_entries(catalogs, page, lists):
    """For the entries of each catalog, how many more must be added, by the definition.

    The catalogs are all those of a tree with one text, so that each set of entries
    is had by just one of them.
    """
    cells = reference.entries(catalogs[-1])
    fewest = {}
    for catalog in sorted(catalogs, key=lambda one: -len(reference.entries(one))):
        here = frozenset(reference.entries(catalog))
        if reference.first_mixing(catalog, page, lists) is None:
            fewest[here] = 0
        else:
            fewest[here] = 1 + min(fewest[here | {cell}] for cell in cells if cell not in here)
    return fewest


class Pages(unittest.TestCase):
    def assert_completed(self, catalog, page, text, lists):
        """The catalog is completed by the fewest entries, so that none of the lists mixes the page."""
        got = completed(catalog, page, text)
        self.assertTrue(is_catalog(got))
        self.assertEqual(got[:2], catalog[:2])
        many = 0
        for row, old_row in zip(got[2], catalog[2]):
            for new, old in zip(row, old_row):
                if new != old:
                    self.assertEqual((old, new), (None, text))
                    many += 1
        self.assertEqual(many, fewest_added(catalog, page), (catalog, page))
        self.assertIs(reference.first_mixing(got, page, lists), None, (catalog, page))
        self.assertIs(mixing(got, page), None)
        self.assertEqual(fewest_added(got, page), 0)


class Definitions(Pages):
    """All sets of entries in a small world."""

    def assert_all(self, tree, way, keys, longest):
        lists = reference.lists_up_to(tree, longest)
        catalogs = reference.catalogs_of(tree, way, keys, (None, 4))
        for page in pages_of(keys):
            fewest = fewest_by_entries(catalogs, page, lists)
            for catalog in catalogs:
                want = reference.first_mixing(catalog, page, lists)
                self.assertEqual(repr(mixing(catalog, page)), repr(want), (catalog, page))
                many = fewest[frozenset(reference.entries(catalog))]
                self.assertEqual(repr(fewest_added(catalog, page)), repr(many), (catalog, page))
                self.assert_completed(catalog, page, 7, lists)

    def test_two_keys(self):
        for way in ("key", "bundle"):
            for tree in reference.trees_up_to(3):
                self.assert_all(tree, way, 2, 3)

    def test_three_keys(self):
        for way in ("key", "bundle"):
            for tree in ((None,), (None, 0), FORK):
                self.assert_all(tree, way, 3, 2)

    def test_four_locales(self):
        for way in ("key", "bundle"):
            for tree in ((None, 0, 1, 1), (None, 0, 1, 0)):
                self.assert_all(tree, way, 2, 2)

    def test_mixes(self):
        for way in ("key", "bundle"):
            for tree in reference.trees_up_to(3):
                for catalog in reference.catalogs_of(tree, way, 2, (None, 4)):
                    for wishes in reference.lists_up_to(tree, 3):
                        for page in pages_of(2):
                            want = reference.mixes(catalog, wishes, page)
                            self.assertIs(mixes(catalog, wishes, page), want, (catalog, wishes))


class Samples(Pages):
    def test_mixes(self):
        for catalog in CATALOGS:
            tree = catalog[0]
            lists = reference.lists_up_to(tree, 2) + [
                tuple(range(len(tree))), tuple(range(len(tree)))[::-1] * 4, (0,) * 40,
                (len(tree) - 1,) * 39 + (0,), (0,) * 39 + (len(tree) - 1,)]
            for wishes in lists:
                for page in pages_of(len(catalog[2][0])):
                    want = reference.mixes(catalog, wishes, page)
                    self.assertIs(mixes(catalog, wishes, page), want, (catalog, wishes, page))

    def test_mixing(self):
        for catalog in CATALOGS:
            lists = reference.lists_up_to(catalog[0], 2)
            for page in pages_of(len(catalog[2][0])):
                want = reference.first_mixing(catalog, page, lists)
                self.assertEqual(repr(mixing(catalog, page)), repr(want), (catalog, page))

    def test_completed(self):
        for catalog in CATALOGS:
            lists = reference.lists_up_to(catalog[0], 2)
            for page in pages_of(len(catalog[2][0])):
                for text in (0, 5, 9):
                    self.assert_completed(catalog, page, text, lists)
                want = reference.first_mixing(catalog, page, lists) is None
                self.assertIs(fewest_added(catalog, page) == 0, want, (catalog, page))

    def test_of_all_with_one_entry_less_none_can_do(self):
        """What is added, less one entry, always leaves a list that mixes the page."""
        for catalog in CATALOGS:
            lists = reference.lists_up_to(catalog[0], 2)
            for page in pages_of(len(catalog[2][0])):
                got = completed(catalog, page, 5)
                for entry in set(reference.entries(got)) - set(reference.entries(catalog)):
                    less = reference.without(got, entry)
                    self.assertIsNot(reference.first_mixing(less, page, lists), None, (less, page))


class Examples(Pages):
    def test_one_mixes_the_page(self):
        for catalog in (KEYED, BUNDLED):
            self.assertIs(mixes(catalog, (1,), (0, 1)), True)
            self.assertEqual(mixing(catalog, (0, 1)), (1,))
            self.assertIs(mixes(catalog, (), (0, 1)), False)
            self.assertIs(mixes(catalog, (2,), (0, 1)), False)
            self.assertIs(mixes(catalog, (3,), (0, 1)), True)

    def test_two_entries_must_be_added(self):
        rows = ((5, 6), (1, 8), (None, 2), (8, 3))
        for catalog in (KEYED, BUNDLED):
            self.assertEqual(fewest_added(catalog, (0, 1)), 2)
            self.assertEqual(completed(catalog, (0, 1), 8), (TREE, catalog[1], rows))

    def test_two_wishes_for_the_way_key(self):
        catalog = (FORK, "key", ((None, None), (1, None), (None, 2)))
        self.assertEqual(mixing(catalog, (0, 1)), (1, 2))
        self.assertIs(mixes(catalog, (2, 1), (0, 1)), True)
        self.assertIs(mixes(catalog, (1,), (0, 1)), False)
        self.assertEqual(fewest_added(catalog, (0, 1)), 2)
        other = (FORK, "bundle", catalog[2])
        self.assertIs(mixing(other, (0, 1)), None)
        self.assertIs(mixes(other, (1, 2), (0, 1)), False)
        self.assertEqual(fewest_added(other, (0, 1)), 0)
        self.assertEqual(completed(other, (0, 1), 3), other)

    def test_the_root_ahead_of_a_wish(self):
        catalog = (FORK, "key", ((4, None), (1, 2), (None, None)))
        self.assertEqual(mixing(catalog, (0, 1)), (0, 1))
        self.assertEqual(completed(catalog, (0, 1), 9)[2], ((4, 9), (1, 2), (None, None)))

    def test_a_locale_without_texts_leaves_it_to_those_below(self):
        rows = ((1, 2, 3), (None, None, None), (4, 5, None), (6, None, 7))
        for way in ("key", "bundle"):
            catalog = ((None, 0, 1, 1), way, rows)
            self.assertEqual(fewest_added(catalog, (0, 1, 2)), 2)
            want = rows[:2] + ((4, 5, 0), (6, 0, 7))
            self.assertEqual(completed(catalog, (0, 1, 2), 0)[2], want)

    def test_a_locale_without_texts_has_all_for_those_below(self):
        rows = ((1, 2), (None, None), (4, None), (None, 7), (4, None))
        for way in ("key", "bundle"):
            catalog = ((None, 0, 1, 1, 1), way, rows)
            self.assertEqual(fewest_added(catalog, (0, 1)), 2)
            self.assertEqual(completed(catalog, (0, 1), 0)[2], ((1, 2), (0, 0)) + rows[2:])

    def test_a_locale_of_other_keys(self):
        """Locale 1 has a text, but for no key of the page."""
        rows = ((1, 2, 3), (None, None, 8), (4, None, None))
        for way in ("key", "bundle"):
            catalog = ((None, 0, 1), way, rows)
            self.assertEqual(fewest_added(catalog, (0, 1)), 1)
            self.assertEqual(completed(catalog, (0, 1), 0)[2], rows[:2] + ((4, 0, None),))

    def test_dialects_of_one_tongue_do_not_mix(self):
        rows = ((None, None), (1, None), (None, 2), (None, None))
        for way in ("key", "bundle"):
            self.assertIs(mixes((TREE, way, rows), (2,), (0, 1)), False)
            self.assertIs(mixing((TREE, way, rows), (0, 1)), None)
            self.assertEqual(fewest_added((TREE, way, rows), (0, 1)), 0)


class Edges(Pages):
    def test_a_page_of_one_key(self):
        for catalog in CATALOGS:
            for key in range(len(catalog[2][0])):
                self.assertIs(mixing(catalog, (key,)), None)
                self.assertEqual(fewest_added(catalog, (key,)), 0)
                self.assertEqual(completed(catalog, (key,), 5), catalog)
                for wishes in reference.lists_up_to(catalog[0], 1):
                    self.assertIs(mixes(catalog, wishes, (key,)), False)

    def test_keys_that_have_no_text_anywhere(self):
        for way in ("key", "bundle"):
            rows = ((None, 1, None), (None, None, None), (None, 3, None))
            catalog = (FORK, way, rows)
            for page in pages_of(3):
                self.assertIs(mixing(catalog, page), None)
                self.assertEqual(fewest_added(catalog, page), 0)
                self.assertEqual(completed(catalog, page, 1), catalog)
            rows = ((None, 1, 4), (None, None, None), (None, 3, None))
            catalog = (FORK, way, rows)
            self.assertEqual(mixing(catalog, (0, 1, 2)), (2,))
            self.assertEqual(fewest_added(catalog, (0, 1, 2)), 1)
            self.assertEqual(completed(catalog, (0, 1, 2), 6), with_text(catalog, 2, 2, 6))

    def test_no_entries(self):
        for tree in ((None,), FORK, FLAT_TEN, CHAIN_TEN):
            for way in ("key", "bundle"):
                for keys in range(1, 5):
                    catalog = (tree, way, ((None,) * keys,) * len(tree))
                    for page in pages_of(keys):
                        self.assertIs(mixing(catalog, page), None)
                        self.assertEqual(fewest_added(catalog, page), 0)
                        self.assertEqual(completed(catalog, page, 0), catalog)
        self.assertEqual(completed(NO_ENTRIES, (0, 1), 0), NO_ENTRIES)

    def test_a_root_without_text(self):
        for catalog in (EMPTY_ROOT, LOW_ONLY):
            for page in pages_of(len(catalog[2][0])):
                self.assertIs(mixing(catalog, page), None)
                self.assertEqual(fewest_added(catalog, page), 0)
        rows = ((None, None), (1, None), (None, None), (None, 3))
        self.assertEqual(mixing((TREE, "key", rows), (0, 1)), (1, 3))
        self.assertEqual(fewest_added((TREE, "key", rows), (0, 1)), 2)
        self.assertIs(mixing((TREE, "bundle", rows), (0, 1)), None)

    def test_one_locale(self):
        self.assertIs(mixes(ONE_LOCALE, (0, 0), (0,)), False)
        catalog = ((None,), "key", ((1, None, 2, 3),))
        self.assertIs(mixing(catalog, (0, 1, 2, 3)), None)
        self.assertEqual(fewest_added(catalog, (0, 1, 2, 3)), 0)

    def test_only_the_root(self):
        self.assertEqual(completed(ROOT_ALONE, (0, 1), 4), ROOT_ALONE)

    def test_long_lists(self):
        for catalog in (FOUR_KEYS, FOUR_KEYS_BUNDLED, KEYED, BUNDLED):
            last = len(catalog[0]) - 1
            for wishes in ((last,) * 40, (0,) * 40, (0,) * 39 + (last,), (last, 1) * 20,
                           tuple(range(last + 1)) * 6):
                for page in pages_of(len(catalog[2][0])):
                    want = reference.mixes(catalog, wishes, page)
                    self.assertIs(mixes(catalog, wishes, page), want)

    def test_trees_of_ten(self):
        for tree in (FLAT_TEN, CHAIN_TEN, MIXED_TEN):
            for way in ("key", "bundle"):
                rows = tuple((5 if locale in (0, 4, 6) else None, 3 if locale in (0, 9) else None, None,
                              7 if locale in (0, 2, 4) else None) for locale in range(10))
                catalog = (tree, way, rows)
                lists = reference.lists_up_to(tree, 2)
                for page in ((0, 1), (0, 3), (0, 1, 3), (0, 1, 2, 3), (2, 3)):
                    want = reference.first_mixing(catalog, page, lists)
                    self.assertEqual(mixing(catalog, page), want)
                    self.assert_completed(catalog, page, 8, lists)
        self.assertEqual(fewest_added((FLAT_TEN, "key", rows), (0, 1, 2, 3)), 2 + 1 + 2 + 2)
        self.assertEqual(fewest_added((CHAIN_TEN, "bundle", rows), (0, 3)), 1)

    def test_by_name(self):
        self.assertIs(mixes(page=(0, 1), wishes=(1,), catalog=KEYED), True)
        self.assertEqual(mixing(page=(0, 1), catalog=KEYED), (1,))
        self.assertEqual(fewest_added(page=(0, 1), catalog=KEYED), 2)
        self.assertEqual(
            completed(text=8, page=(0, 1), catalog=KEYED), completed(KEYED, (0, 1), 8))


class Wrong(unittest.TestCase):
    def test_what_is_no_page(self):
        for wrong in (
            (), [0], [0, 1], (1, 0), (0, 0), (0, 1, 1), (0, 2), (2,), (-1,), (-1, 0), (0, True),
            (False,), (False, 1), ("0",), ((0,),), (None,), None, 0, 1, True, "0", "01", (0, 1, None),
            (0, None), tuple(range(2000)), (0,) * 2000, (10 ** 30,), {0}, range(2),
        ):
            for catalog in (KEYED, BUNDLED):
                for call in (
                    lambda: mixes(catalog, (1,), wrong), lambda: mixing(catalog, wrong),
                    lambda: fewest_added(catalog, wrong), lambda: completed(catalog, wrong, 1),
                ):
                    with self.assertRaises(InvalidPage):
                        call()

    def test_the_keys_are_those_of_the_catalog(self):
        for keys in range(1, 5):
            catalog = (FORK, "key", ((1,) * keys,) * 3)
            self.assertEqual(fewest_added(catalog, tuple(range(keys))), 0)
            for wrong in (tuple(range(keys + 1)), (keys,), (0, keys)):
                with self.assertRaises(InvalidPage):
                    mixing(catalog, wrong)

    def test_the_sequence_of_the_errors(self):
        for call, error in (
            (lambda: mixes(list(KEYED), [1], [0]), InvalidCatalog),
            (lambda: mixes(KEYED, [1], [0]), InvalidWishes),
            (lambda: mixes(KEYED, (4,), ()), InvalidWishes),
            (lambda: mixes(KEYED, (1,), ()), InvalidPage),
            (lambda: mixing(None, ()), InvalidCatalog),
            (lambda: fewest_added(None, ()), InvalidCatalog),
            (lambda: completed(None, (), 10), InvalidCatalog),
            (lambda: completed(KEYED, (), 10), InvalidPage),
            (lambda: completed(KEYED, (0,), 10), InvalidText),
        ):
            with self.assertRaises(error):
                call()

    def test_no_text(self):
        for wrong in (None, -1, 10, True, False, "1", (1,), [], 10 ** 30, KEYED):
            for page in ((0,), (0, 1)):
                with self.assertRaises(InvalidText):
                    completed(KEYED, page, wrong)


if __name__ == "__main__":
    unittest.main()
