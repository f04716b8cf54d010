"""Tests of wishedtongues.compare [13], F2, F3, F5."""

import unittest

import reference
from samples import (
    BUNDLED, CATALOGS, CHAIN_TEN, FLAT_TEN, FOUR_KEYS, FOUR_KEYS_BUNDLED, KEYED, LOW_ONLY,
    MIXED_TEN, NO_ENTRIES, ONE_LOCALE, ROOT_ALONE, TEN_LOCALES, TREE,
)
from wishedtongues.catalogs import laid_over, shown, with_text
from wishedtongues.compare import alike, lacking, parting, within
from wishedtongues.errors import InvalidCatalog, Unlike

FORK = (None, 0, 0)
FUNCTIONS = (alike, parting, within, lacking)


def other_way(catalog):
    return (catalog[0], {"key": "bundle", "bundle": "key"}[catalog[1]], catalog[2])


def first_unlike(lists, rows, other_rows):
    """The first of the lists and the least key with unlike texts, by the definition."""
    for wishes, row, other_row in zip(lists, rows, other_rows):
        for key in range(len(row)):
            if row[key] != other_row[key]:
                return (wishes, key)
    return None


def first_lacked(lists, rows, other_rows):
    """The first of the lists and the least key with a text that the other one lacks."""
    for wishes, row, other_row in zip(lists, rows, other_rows):
        for key in range(len(row)):
            if row[key] is not None and row[key] != other_row[key]:
                return (wishes, key)
    return None


class Compared(unittest.TestCase):
    def assert_compared(self, catalog, other_catalog, apart, lacked):
        told = (catalog, other_catalog)
        self.assertEqual(repr(parting(catalog, other_catalog)), repr(apart), told)
        self.assertIs(alike(catalog, other_catalog), apart is None, told)
        self.assertEqual(repr(lacking(catalog, other_catalog)), repr(lacked), told)
        self.assertIs(within(catalog, other_catalog), lacked is None, told)

    def assert_all_compared(self, catalogs, longest):
        """Compare each pair of the catalogs by all lists of at most so many wishes."""
        lists = reference.lists_up_to(catalogs[0][0], longest)
        rows = [[reference.shown_row(catalog, wishes) for wishes in lists] for catalog in catalogs]
        for catalog, its_rows in zip(catalogs, rows):
            for other_catalog, other_rows in zip(catalogs, rows):
                self.assert_compared(
                    catalog, other_catalog, first_unlike(lists, its_rows, other_rows),
                    first_lacked(lists, its_rows, other_rows))


class Definitions(Compared):
    def test_one_key(self):
        for way in ("key", "bundle"):
            for tree in reference.trees_up_to(3):
                self.assert_all_compared(reference.catalogs_of(tree, way, 1, (None, 5, 6)), 3)

    def test_two_keys(self):
        for way in ("key", "bundle"):
            for tree in reference.trees_up_to(3):
                catalogs = reference.catalogs_of(tree, way, 2, (None, 0))
                self.assert_all_compared(catalogs[::len(catalogs) // 20 + 1], 3)
                catalogs = reference.catalogs_of(tree, way, 2, (None, 5, 6))
                self.assert_all_compared(catalogs[::len(catalogs) // 20 + 1], 3)

    def test_four_locales(self):
        for way in ("key", "bundle"):
            for tree in reference.all_trees(4):
                catalogs = reference.catalogs_of(tree, way, 1, (None, 5, 6))
                self.assert_all_compared(catalogs[::7], 3)
                catalogs = reference.catalogs_of(tree, way, 2, (None, 4))
                self.assert_all_compared(catalogs[::17], 2)

    def test_each_text_of_a_catalog_changed(self):
        """Catalogs that differ in one text alone, with up to ten locales and four keys."""
        for catalog in CATALOGS:
            found = [catalog]
            for locale in range(len(catalog[0])):
                for key in range(len(catalog[2][0])):
                    for text in (None, catalog[2][0][key], 9):
                        found.append(with_text(catalog, locale, key, text))
            found = list(dict.fromkeys(found))
            lists = reference.lists_up_to(catalog[0], 2)
            rows = [[reference.shown_row(one, wishes) for wishes in lists] for one in found]
            for one, its_rows in zip(found, rows):
                self.assert_compared(
                    catalog, one, first_unlike(lists, rows[0], its_rows),
                    first_lacked(lists, rows[0], its_rows))
                self.assert_compared(
                    one, catalog, first_unlike(lists, its_rows, rows[0]),
                    first_lacked(lists, its_rows, rows[0]))


class Examples(Compared):
    def test_two_wishes_can_be_needed(self):
        one = (FORK, "key", ((5,), (5,), (7,)))
        two = (FORK, "key", ((5,), (None,), (7,)))
        self.assert_compared(one, two, ((1, 2), 0), ((1, 2), 0))
        self.assert_compared(two, one, ((1, 2), 0), ((1, 2), 0))

    def test_a_locale_with_the_row_of_the_root(self):
        one = (FORK, "bundle", ((5, 6), (5, None), (7, None)))
        two = (FORK, "bundle", ((5, 6), (None, 6), (7, None)))
        bare = (FORK, "bundle", ((5, 6), (None, None), (7, None)))
        self.assert_compared(one, two, None, None)
        self.assert_compared(one, bare, ((1, 2), 0), ((1, 2), 0))
        both = (FORK, "bundle", ((5, 6), (5, 6), (7, 6)))
        self.assert_compared(one, both, None, None)

    def test_the_least_list_and_the_least_key(self):
        one = (TREE, "key", ((1, 2), (None, None), (3, 4), (5, 6)))
        self.assert_compared(one, with_text(one, 3, 0, 7), ((3,), 0), ((3,), 0))
        self.assert_compared(one, with_text(one, 3, 1, 7), ((3,), 1), ((3,), 1))
        self.assert_compared(one, with_text(one, 2, 1), ((2,), 1), ((2,), 1))
        self.assert_compared(with_text(one, 2, 1), one, ((2,), 1), ((2,), 1))
        self.assert_compared(one, with_text(one, 0, 1), ((), 1), ((), 1))
        # Where the root is wished first, its text goes ahead of the one at 2.
        self.assert_compared(with_text(one, 0, 1), one, ((), 1), ((0, 2), 1))
        late = (TREE, "key", ((1, 2), (None, None), (3, 9), (8, 7)))
        self.assert_compared(one, late, ((2,), 1), ((2,), 1))

    def test_both_wishes_in_their_sequence(self):
        one = ((None, 0, 0, 0), "key", ((None,), (2,), (1,), (2,)))
        two = ((None, 0, 0, 0), "key", ((None,), (2,), (1,), (None,)))
        self.assert_compared(one, two, ((3,), 0), ((3,), 0))
        one = ((None, 0, 0, 0), "key", ((2,), (2,), (1,), (2,)))
        two = ((None, 0, 0, 0), "key", ((2,), (2,), (1,), (None,)))
        self.assert_compared(one, two, ((3, 2), 0), ((3, 2), 0))

    def test_lacking_is_not_the_same_as_parting(self):
        one = (TREE, "key", ((None, 2), (1, None), (None, None), (5, 6)))
        two = (TREE, "key", ((None, 2), (1, 1), (None, None), (None, 6)))
        self.assert_compared(one, two, ((1,), 1), ((1,), 1))
        two = (TREE, "key", ((4, 2), (1, None), (None, None), (None, 6)))
        self.assert_compared(one, two, ((), 0), ((3,), 0))
        two = (TREE, "key", ((4, 2), (1, None), (None, None), (5, 6)))
        self.assert_compared(one, two, ((), 0), ((0, 1), 0))
        one, two = (TREE, "bundle", one[2]), (TREE, "bundle", two[2])
        self.assert_compared(one, two, ((), 0), None)
        self.assert_compared(two, one, ((), 0), ((), 0))


class Edges(Compared):
    def test_each_sample_is_like_itself(self):
        for catalog in CATALOGS:
            self.assert_compared(catalog, catalog, None, None)

    def test_no_entries(self):
        for catalog in CATALOGS:
            tree, way, rows = catalog
            bare = (tree, way, ((None,) * len(rows[0]),) * len(tree))
            self.assertTrue(within(bare, catalog))
            self.assertIs(alike(bare, catalog), reference.entries(catalog) == [])
            self.assertIs(within(catalog, bare), reference.entries(catalog) == [])
            for wishes, key in [found for found in (parting(catalog, bare),) if found]:
                self.assertIsNot(shown(catalog, wishes, key), None)

    def test_one_text_alone(self):
        for way in ("key", "bundle"):
            at_root = (TREE, way, ((4,), (None,), (None,), (None,)))
            everywhere = (TREE, way, ((4,),) * 4)
            self.assert_compared(at_root, everywhere, None, None)
            self.assert_compared(everywhere, (TREE, way, ((4,), (None,), (4,), (None,))), None, None)
            below = (TREE, way, ((None,), (4,), (4,), (4,)))
            self.assert_compared(below, at_root, ((), 0), None)
            self.assert_compared(at_root, below, ((), 0), ((), 0))
            another = (TREE, way, ((3,),) * 4)
            self.assert_compared(everywhere, another, ((), 0), ((), 0))

    def test_one_key_with_one_text_alone_beside_another_key(self):
        one = (FORK, "key", ((4, None), (None, 1), (4, 2)))
        two = (FORK, "key", ((4, None), (4, 1), (None, 2)))
        self.assert_compared(one, two, None, None)
        one, two = other_way(one), other_way(two)
        self.assert_compared(one, two, None, None)

    def test_a_root_without_text(self):
        one = (FORK, "key", ((None,), (5,), (5,)))
        two = (FORK, "key", ((None,), (5,), (None,)))
        for given in ((one, two), (other_way(one), other_way(two))):
            self.assert_compared(*given, ((2,), 0), ((2,), 0))
            self.assert_compared(*given[::-1], ((2,), 0), None)

    def test_skipped_locales(self):
        one = (FORK, "bundle", ((5, 6), (None, None), (7, None)))
        two = (FORK, "bundle", ((5, 6), (5, None), (7, None)))
        self.assert_compared(one, two, ((1, 2), 0), ((1, 2), 0))
        self.assert_compared(
            with_text(one, 2, 0), with_text(two, 2, 0), None, None)

    def test_trees_of_ten(self):
        for tree in (FLAT_TEN, CHAIN_TEN, MIXED_TEN):
            for way in ("key", "bundle"):
                one = (tree, way, tuple((locale, 9, None, 3) for locale in range(10)))
                two = with_text(one, 9, 3, 4)
                self.assert_compared(one, two, ((9,), 3), ((9,), 3))
                self.assert_compared(one, with_text(one, 0, 2, 1), ((), 2), None)
                self.assert_compared(one, laid_over(two, one), None, None)

    def test_by_name(self):
        for function in FUNCTIONS:
            self.assertEqual(
                function(other_catalog=KEYED, catalog=with_text(KEYED, 3, 0, 9)),
                function(with_text(KEYED, 3, 0, 9), KEYED))

    def test_within_goes_from_the_first_to_the_second(self):
        less = (FORK, "key", ((None, 1), (5, None), (None, None)))
        more = with_text(less, 2, 0, 5)
        self.assertIs(within(catalog=less, other_catalog=more), True)
        self.assertIs(within(catalog=more, other_catalog=less), False)
        self.assertIs(lacking(catalog=less, other_catalog=more), None)
        self.assertEqual(lacking(catalog=more, other_catalog=less), ((2,), 0))


class Unlikes(unittest.TestCase):
    def test_not_of_one_kind(self):
        small = (FORK, "key", ((1,), (2,), (None,)))
        for other_catalog in (
            ((None, 0, 1), "key", small[2]), (FORK, "bundle", small[2]),
            (FORK, "key", ((1, 1), (2, 2), (None, None))), ((None, 0), "key", small[2][:2]),
            ((None, 0, 0, 0), "key", small[2] + ((None,),)), KEYED, ONE_LOCALE, TEN_LOCALES,
        ):
            for function in FUNCTIONS:
                for given in ((small, other_catalog), (other_catalog, small)):
                    with self.assertRaises(Unlike):
                        function(*given)

    def test_each_two_samples(self):
        for catalog in CATALOGS:
            for other_catalog in CATALOGS:
                kinds = [(one[0], one[1], len(one[2][0])) for one in (catalog, other_catalog)]
                for function in FUNCTIONS:
                    if kinds[0] == kinds[1]:
                        function(catalog, other_catalog)
                    else:
                        with self.assertRaises(Unlike):
                            function(catalog, other_catalog)

    def test_no_catalog_goes_ahead_of_unlike(self):
        for wrong in (None, list(ONE_LOCALE), ONE_LOCALE[:2], (TREE, "keys", KEYED[2]), [], 5):
            for catalog in (KEYED, BUNDLED, NO_ENTRIES, FOUR_KEYS, FOUR_KEYS_BUNDLED, LOW_ONLY):
                for function in FUNCTIONS:
                    for given in ((wrong, catalog), (catalog, wrong), (wrong, wrong)):
                        with self.assertRaises(InvalidCatalog):
                            function(*given)

    def test_root_alone_beside_its_own_kind(self):
        for function in FUNCTIONS:
            with self.assertRaises(Unlike):
                function(ROOT_ALONE, KEYED)
            function(ROOT_ALONE, LOW_ONLY)


if __name__ == "__main__":
    unittest.main()
