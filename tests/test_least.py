"""Tests of wishedtongues.least [14], F3 to F6."""

import unittest
from itertools import product

import reference
from samples import (
    BUNDLED, CATALOGS, CHAIN_TEN, EMPTY_ROOT, FLAT_TEN, KEYED, LOW_ONLY, MIXED_TEN, NO_ENTRIES,
    ONE_LOCALE, ROOT_ALONE, TREE,
)
from wishedtongues.catalogs import is_catalog
from wishedtongues.compare import alike
from wishedtongues.errors import InvalidCatalog, InvalidChoice
from wishedtongues.least import count_least, is_least, least, least_catalogs, needless

FORK = (None, 0, 0)
HELD = (FORK, "bundle", ((5, 6), (5, None), (7, None)))

# Each of the nine locales below the root has a row like the root's, so each needs one entry.
MANY = (FLAT_TEN, "bundle", ((1, 2),) + ((1, None),) * 8 + ((3, 2),))
MANY_MORE = (FLAT_TEN, "bundle", ((1, None, 2, 3),) + ((None, None, 2, None),) * 8 + ((1, 5, 2, 3),))


def groups_of_alike(catalogs, longest):
    """The catalogs, all of one kind, in groups of the ones with the same shown rows."""
    groups = {}
    lists = reference.lists_up_to(catalogs[0][0], longest)
    for catalog in catalogs:
        rows = tuple(reference.shown_row(catalog, wishes) for wishes in lists)
        groups.setdefault(rows, []).append(catalog)
    return list(groups.values())


def with_fewest(catalogs):
    """Those of the catalogs that have the fewest entries, ascending by their entries."""
    fewest = min(len(reference.entries(catalog)) for catalog in catalogs)
    found = [catalog for catalog in catalogs if len(reference.entries(catalog)) == fewest]
    return sorted(found, key=reference.entries)


class Definitions(unittest.TestCase):
    """All catalogs of a small world, in groups of alike ones."""

    def assert_all(self, catalogs, longest):
        for group in groups_of_alike(catalogs, longest):
            want = with_fewest(group)
            among = set(group)
            for catalog in group:
                self.assert_one(catalog, want, among)

    def assert_one(self, catalog, want, among):
        self.assertEqual(list(least_catalogs(catalog)), want, catalog)
        self.assertEqual(list(least_catalogs(catalog, most=1)), want[:1], catalog)
        self.assertIs(type(count_least(catalog)), int)
        self.assertEqual(count_least(catalog), len(want), catalog)
        self.assertIn(least(catalog), want, catalog)
        self.assertIs(is_least(catalog), catalog in want, catalog)
        entries = [entry for entry in reference.entries(catalog)
                   if reference.without(catalog, entry) in among]
        self.assertEqual(repr(needless(catalog)), repr(entries), catalog)

    def test_one_key(self):
        for way in ("key", "bundle"):
            for tree in reference.trees_up_to(3):
                self.assert_all(reference.catalogs_of(tree, way, 1, (None, 5, 6)), 3)

    def test_two_keys(self):
        for way in ("key", "bundle"):
            for tree in reference.trees_up_to(3):
                self.assert_all(reference.catalogs_of(tree, way, 2, (None, 5, 6)), 2)

    def test_three_keys(self):
        for way in ("key", "bundle"):
            for tree in reference.trees_up_to(3):
                self.assert_all(reference.catalogs_of(tree, way, 3, (None, 0)), 2)

    def test_four_locales(self):
        for way in ("key", "bundle"):
            for tree in reference.all_trees(4):
                self.assert_all(reference.catalogs_of(tree, way, 1, (None, 5, 6)), 3)
                self.assert_all(reference.catalogs_of(tree, way, 2, (None, 4)), 2)


class Examples(unittest.TestCase):
    def test_two_least_catalogs_with_four_entries_each(self):
        other = (FORK, "bundle", ((5, 6), (None, 6), (7, None)))
        for catalog in (HELD, other, (FORK, "bundle", ((5, 6), (5, 6), (7, 6)))):
            self.assertEqual(list(least_catalogs(catalog)), [HELD, other])
            self.assertEqual(count_least(catalog), 2)
            self.assertIn(least(catalog), (HELD, other))
        self.assertIs(is_least(HELD), True)
        self.assertIs(is_least(other), True)
        self.assertIs(is_least((FORK, "bundle", ((5, 6), (5, 6), (7, 6)))), False)
        self.assertEqual(needless(HELD), [])
        self.assertEqual(
            needless((FORK, "bundle", ((5, 6), (5, 6), (7, 6)))), [(1, 0), (1, 1), (2, 1)])

    def test_the_tree_of_the_examples(self):
        for catalog in (KEYED, BUNDLED):
            self.assertEqual(needless(catalog), [])
            self.assertIs(is_least(catalog), True)
            self.assertEqual(least(catalog), catalog)
            self.assertEqual(list(least_catalogs(catalog)), [catalog])
            self.assertEqual(count_least(catalog), 1)

    def test_a_text_like_the_one_above(self):
        rows = ((5,), (4,), (4,), (5,))
        self.assertEqual(needless((TREE, "key", rows)), [(2, 0)])
        self.assertEqual(least((TREE, "key", rows)), (TREE, "key", ((5,), (4,), (None,), (5,))))
        self.assertEqual(needless((TREE, "bundle", rows)), [(2, 0)])
        self.assertEqual(least((TREE, "bundle", rows)), (TREE, "bundle", ((5,), (4,), (None,), (5,))))

    def test_a_skipped_parent(self):
        rows = ((5, 6), (None, None), (5, 6), (1, 6))
        self.assertEqual(needless((TREE, "bundle", rows)), [(2, 0), (2, 1), (3, 1)])
        self.assertEqual(
            [catalog[2] for catalog in least_catalogs((TREE, "bundle", rows))],
            [((5, 6), (None, None), (5, None), (1, None)),
             ((5, 6), (None, None), (None, 6), (1, None))])

    def test_a_row_like_the_root_below_another_one(self):
        """Locale 2 has the root's row, but is not skipped anyway, as 1 has an entry."""
        rows = ((5, 6), (1, None), (5, None), (None, None))
        self.assertEqual(list(least_catalogs((TREE, "bundle", rows))), [(TREE, "bundle", rows)])
        rows = ((5, 6), (1, None), (5, 6), (None, None))
        self.assertEqual(needless((TREE, "bundle", rows)), [(2, 1)])


class Edges(unittest.TestCase):
    def assert_just_one(self, catalog, only):
        self.assertEqual(list(least_catalogs(catalog)), [only])
        self.assertEqual(least(catalog), only)
        self.assertEqual(count_least(catalog), 1)
        self.assertIs(is_least(catalog), catalog == only)
        self.assertEqual(needless(only), [])

    def test_no_entries(self):
        for tree in (TREE, (None,), FLAT_TEN, CHAIN_TEN):
            for way in ("key", "bundle"):
                for keys in range(1, 5):
                    catalog = (tree, way, ((None,) * keys,) * len(tree))
                    self.assert_just_one(catalog, catalog)
                    self.assertEqual(needless(catalog), [])

    def test_one_text_alone(self):
        for way in ("key", "bundle"):
            everywhere = (TREE, way, ((4,),) * 4)
            at_root = (TREE, way, ((4,), (None,), (None,), (None,)))
            self.assert_just_one(everywhere, at_root)
            self.assert_just_one(at_root, at_root)
            self.assertEqual(needless(everywhere), [(1, 0), (2, 0), (3, 0)])
            below = (TREE, way, ((None,), (4,), (4,), (4,)))
            self.assert_just_one(below, (TREE, way, ((None,), (4,), (None,), (4,))))
            self.assertEqual(needless(below), [(2, 0)])

    def test_one_key_with_one_text_alone(self):
        rows = ((4, None), (4, 1), (4, 2), (4, None))
        self.assert_just_one(
            (TREE, "key", rows), (TREE, "key", ((4, None), (None, 1), (None, 2), (None, None))))
        self.assertEqual(needless((TREE, "key", rows)), [(1, 0), (2, 0), (3, 0)])

    def test_each_by_itself_but_not_both(self):
        catalog = (FORK, "bundle", ((5, 6), (5, 6), (7, None)))
        self.assertEqual(needless(catalog), [(1, 0), (1, 1)])
        self.assertEqual(count_least(catalog), 2)

    def test_all_rows_like_the_root(self):
        catalog = (FORK, "bundle", ((5, 6), (5, None), (None, 6)))
        self.assert_just_one(catalog, (FORK, "bundle", ((5, 6), (None, None), (None, None))))
        self.assertEqual(needless(catalog), [(1, 0), (2, 1)])

    def test_a_root_without_text(self):
        self.assert_just_one(EMPTY_ROOT, EMPTY_ROOT)
        self.assert_just_one(LOW_ONLY, LOW_ONLY)
        rows = ((None,), (4,), (4,), (3,))
        for way in ("key", "bundle"):
            self.assert_just_one((TREE, way, rows), (TREE, way, ((None,), (4,), (None,), (3,))))

    def test_only_the_root(self):
        self.assert_just_one(ONE_LOCALE, ONE_LOCALE)
        self.assert_just_one(ROOT_ALONE, ROOT_ALONE)
        self.assert_just_one(NO_ENTRIES, NO_ENTRIES)

    def test_samples(self):
        for catalog in CATALOGS:
            entries = reference.entries(catalog)
            best = least(catalog=catalog)
            self.assertTrue(is_catalog(best))
            self.assertTrue(alike(catalog, best))
            self.assertIs(is_least(catalog=best), True)
            self.assertIs(is_least(catalog), len(entries) == len(reference.entries(best)))
            self.assertEqual(needless(catalog=best), [])
            self.assertEqual(
                needless(catalog),
                [entry for entry in entries if alike(catalog, reference.without(catalog, entry))])
            self.assertEqual(len(list(least_catalogs(catalog))), count_least(catalog=catalog))

    def test_a_chain_of_ten(self):
        """Along a chain only a text that changes must stand."""
        rows = ((5,), (4,), (4,), (5,), (5,), (5,), (5,), (3,), (None,), (3,))
        for way in ("key", "bundle"):
            self.assertEqual(needless((CHAIN_TEN, way, rows)), [(2, 0), (4, 0), (5, 0), (6, 0), (9, 0)])
            self.assertEqual(
                reference.entries(least((CHAIN_TEN, way, rows))), [(0, 0), (1, 0), (3, 0), (7, 0)])

    def test_a_changed_list_changes_nothing(self):
        catalog = (TREE, "key", ((4,),) * 4)
        got = needless(catalog)
        got.clear()
        self.assertEqual(needless(catalog), [(1, 0), (2, 0), (3, 0)])


class Many(unittest.TestCase):
    """Trees of ten locales with more least catalogs than are asked for."""

    def rows_with(self, catalog, keys):
        """The rows of the least catalog in which the locales 1 to 8 keep an entry for these keys."""
        root = catalog[2][0]
        held = [tuple(root[at] if at == key else None for at in range(len(root))) for key in keys]
        last = tuple(None if text == above else text for text, above in zip(catalog[2][9], root))
        return (root,) + tuple(held) + (last,)

    def test_all_of_them_ascending(self):
        want = [self.rows_with(MANY, keys) for keys in product((0, 1), repeat=8)]
        got = list(least_catalogs(MANY))
        self.assertEqual([catalog[2] for catalog in got], want)
        self.assertEqual(count_least(MANY), 256)
        lists = [reference.entries(catalog) for catalog in got]
        self.assertEqual(lists, sorted(lists))

    def test_more_than_a_thousand(self):
        self.assertEqual(count_least(MANY_MORE), 3 ** 8)
        every = [self.rows_with(MANY_MORE, keys) for keys in product((0, 2, 3), repeat=8)]
        for choices, many in (({}, 1000), ({"most": 1000}, 1000), ({"most": 999}, 999),
                              ({"most": 1}, 1), ({"most": 2}, 2), ({"most": 10}, 10)):
            got = list(least_catalogs(MANY_MORE, **choices))
            self.assertEqual([catalog[2] for catalog in got], every[:many])
        for catalog in got:
            self.assertEqual(catalog[:2], MANY_MORE[:2])
            self.assertTrue(alike(catalog, MANY_MORE))
            self.assertTrue(is_least(catalog))

    def test_the_most_there_can_be(self):
        rows = ((1, 2, 3, 4),) + ((1, None, None, None),) * 8 + ((2, None, None, None),)
        self.assertEqual(count_least((FLAT_TEN, "bundle", rows)), 4 ** 8)
        self.assertEqual(len(list(least_catalogs((FLAT_TEN, "bundle", rows)))), 1000)
        # If all locales have the root's row, none of them needs an entry.
        rows = ((1, 2, 3, 4),) + ((1, None, None, None),) * 9
        self.assertEqual(count_least((FLAT_TEN, "bundle", rows)), 1)

    def test_skipped_parents_of_ten(self):
        rows = [(1, 2)] + [(None, None)] * 9
        for locale in (3, 4, 5, 7, 9):
            rows[locale] = (1, 2)
        rows[8] = (5, None)
        catalog = (MIXED_TEN, "bundle", tuple(rows))
        # Of these, 3, 4 and 5 lie below skipped ones; 7 lies below 4, and 9 below 8.
        self.assertEqual(count_least(catalog), 8)
        found = [reference.entries(one) for one in least_catalogs(catalog)]
        want = [[(0, 0), (0, 1), (3, one), (4, two), (5, three), (8, 0), (9, 0)]
                for one, two, three in product((0, 1), repeat=3)]
        self.assertEqual(found, want)

    def test_two_iterations_side_by_side(self):
        for one, other in zip(least_catalogs(MANY), least_catalogs(MANY, most=300)):
            self.assertEqual(one, other)
        pairs = [(one, two) for one in least_catalogs(HELD) for two in least_catalogs(HELD)]
        self.assertEqual(pairs, list(product(least_catalogs(HELD), repeat=2)))

    def test_left_behind_early(self):
        for _ in range(2):
            for catalog in least_catalogs(MANY_MORE):
                first = catalog
                break
            self.assertEqual(first, list(least_catalogs(MANY_MORE, most=1))[0])


class Choices(unittest.TestCase):
    def test_most_by_name_only(self):
        with self.assertRaises(TypeError):
            list(least_catalogs(HELD, 1))
        self.assertEqual(list(least_catalogs(most=1, catalog=HELD)), [HELD])

    def test_errors_at_the_first_step_at_last(self):
        for most in (0, -1, 1001, True, False, None, "1", (1,), 10 ** 30, HELD):
            with self.assertRaises(InvalidChoice):
                next(iter(least_catalogs(HELD, most=most)))
            with self.assertRaises(InvalidCatalog):
                next(iter(least_catalogs(list(HELD), most=most)))
        with self.assertRaises(InvalidCatalog):
            next(iter(least_catalogs(None)))


if __name__ == "__main__":
    unittest.main()
