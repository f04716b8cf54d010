"""Tests of wishedtongues.catalogs [5], [6], [12], F7, and the examples of [9]."""

import unittest

import reference
import samples
from samples import (
    BUNDLED, CATALOGS, EMPTY_ROOT, FOUR_KEYS, FOUR_KEYS_BUNDLED, KEYED, LOW_ONLY, NO_ENTRIES,
    ONE_LOCALE, ROOT_ALONE, ROWS, TEN_LOCALES, TREE,
)
from wishedtongues.catalogs import (
    chosen, entries, is_catalog, is_skipped, laid_over, own_text, parting_catalog, place,
    same_here, shortened, shown, shown_row, with_text,
)
from wishedtongues.errors import Unlike

SMALL = (None, 0, 1)


def small_catalogs():
    """All catalogs of a small tree with two keys, both ways, and one text or none."""
    return (reference.catalogs_of(SMALL, "key", 2, (None, 4))
            + reference.catalogs_of(SMALL, "bundle", 2, (None, 4)))


def lists_for(catalog):
    tree = catalog[0]
    lists = reference.lists_up_to(tree, 2 if len(tree) < 10 else 1)
    return lists + [tuple(range(len(tree)))[::-1] * 4, (len(tree) - 1,) * 40, (0,) * 40]


class Exact(unittest.TestCase):
    def assert_exactly(self, got, want, *told):
        # repr tells True from 1, and a tuple from a list.
        self.assertEqual(repr(got), repr(want), told)


class Examples(Exact):
    def test_the_chosen_index(self):
        rows = ((None, None), (None, None), (None, None), (None, 3))
        self.assert_exactly(chosen((TREE, "bundle", rows), (2, 3)), 1)

    def test_shown_rows(self):
        self.assert_exactly(shown_row(KEYED, (2,)), (1, 2))
        self.assert_exactly(shown_row(KEYED, (3,)), (5, 3))
        self.assert_exactly(shown_row(KEYED, (1, 3)), (1, 3))
        self.assert_exactly(shown_row(BUNDLED, (1, 3)), (1, 6))
        self.assert_exactly(chosen(BUNDLED, (1, 3)), 0)

    def test_places(self):
        for catalog in (KEYED, BUNDLED):
            self.assert_exactly(place(catalog, (1,), 0), 1)
            self.assert_exactly(place(catalog, (1,), 1), 0)

    def test_two_wishes_can_be_needed(self):
        for rows, text in ((((5,), (5,), (7,)), 5), (((5,), (None,), (7,)), 7)):
            self.assert_exactly(shown_row(((None, 0, 0), "key", rows), (1, 2)), (text,))
        for wishes in ((), (0,), (1,), (2,)):
            self.assert_exactly(
                shown_row(((None, 0, 0), "key", ((5,), (5,), (7,))), wishes),
                shown_row(((None, 0, 0), "key", ((5,), (None,), (7,))), wishes))

    def test_not_skipped_with_the_row_of_the_root(self):
        catalog = ((None, 0, 0), "bundle", ((5, 6), (5, None), (7, None)))
        self.assert_exactly(is_skipped(catalog, 1), False)
        self.assert_exactly(shown_row(catalog, (1,)), (5, 6))
        self.assert_exactly(shown_row(catalog, (1, 2)), (5, 6))
        bare = ((None, 0, 0), "bundle", ((5, 6), (None, None), (7, None)))
        self.assert_exactly(shown_row(bare, (1, 2)), (7, 6))


class IsCatalog(Exact):
    def test_catalogs(self):
        for catalog in CATALOGS:
            self.assert_exactly(is_catalog(catalog), True, catalog)
        for keys in range(1, 5):
            self.assert_exactly(is_catalog(((None,), "key", ((0,) * keys,))), True)
        self.assert_exactly(is_catalog(((None,), "key", ((9, 0, None, 9),))), True)

    def test_what_is_no_catalog(self):
        for value in (
            [(None,), "key", ((1,),)], ((None,), "key", [(1,)]), ((None,), "key", ([1],)),
            ([None], "key", ((1,),)), ((None,), "key", ((),)), ((None,), "key", ((1,) * 5,)),
            ((None,), "key", ((10,),)), ((None,), "key", ((-1,),)), ((None,), "key", ((True,),)),
            ((None,), "key", (("1",),)), ((None,), "keys", ((1,),)), ((None,), None, ((1,),)),
            ((None,), "key", ()), ((None,), "key", ((1,), (1,))), ((None, 0), "key", ((1,),)),
            ((None, 0), "key", ((1,), (1, 2))), ((None, 0), "key", ((1, 2), (1,))),
            ((None, 1), "key", ((1,), (1,))), ((None,), "key"), ((None,), "key", ((1,),), None),
            ("key", (None,), ((1,),)), ((None,), ((1,),), "key"), None, "catalog", (), (None,), 0,
        ):
            self.assert_exactly(is_catalog(value), False, value)

    def test_is_catalog_of_any_value(self):
        values = samples.any_values()
        for catalog in CATALOGS:
            values += samples.changed(catalog)
        for once in samples.changed(((None, 0), "key", ((1, None), (None, 9)))):
            values += samples.changed(once)
        for value in values:
            self.assert_exactly(is_catalog(value), reference.is_catalog(value), value)
        self.assert_exactly(is_catalog(value=KEYED), True)


class Parts(Exact):
    def test_entries(self):
        self.assert_exactly(entries(KEYED), [(0, 0), (0, 1), (1, 0), (2, 1), (3, 1)])
        self.assert_exactly(entries(NO_ENTRIES), [])
        self.assert_exactly(entries(ROOT_ALONE), [(0, 0)])
        self.assert_exactly(entries(((None, 0), "key", ((None, 0), (0, 0)))), [(0, 1), (1, 0), (1, 1)])
        for catalog in CATALOGS + tuple(small_catalogs()):
            self.assert_exactly(entries(catalog=catalog), reference.entries(catalog), catalog)

    def test_a_changed_list_of_entries_changes_nothing(self):
        got = entries(KEYED)
        got.clear()
        self.assertEqual(len(entries(KEYED)), 5)

    def test_own_texts(self):
        self.assert_exactly(own_text(KEYED, 2, 0), 1)
        self.assert_exactly(own_text(KEYED, 2, 1), 2)
        self.assert_exactly(own_text(KEYED, 1, 1), None)
        self.assert_exactly(own_text(KEYED, 3, 0), None)
        self.assert_exactly(own_text(KEYED, 0, 1), 6)
        self.assert_exactly(own_text(key=1, locale=3, catalog=BUNDLED), 3)
        for catalog in CATALOGS + tuple(small_catalogs()):
            for locale in range(len(catalog[0])):
                for key in range(len(catalog[2][0])):
                    want = reference.own_text(catalog, locale, key)
                    self.assert_exactly(own_text(catalog, locale, key), want, catalog, locale, key)

    def test_skipped_locales(self):
        self.assert_exactly([is_skipped(LOW_ONLY, k) for k in range(4)], [True, True, True, False])
        self.assert_exactly([is_skipped(ROOT_ALONE, k) for k in range(4)], [False, True, True, True])
        self.assert_exactly([is_skipped(EMPTY_ROOT, k) for k in range(4)], [True, True, False, False])
        self.assert_exactly([is_skipped(NO_ENTRIES, k) for k in range(3)], [True, True, True])
        self.assert_exactly(is_skipped(locale=2, catalog=KEYED), False)
        for catalog in CATALOGS + tuple(small_catalogs()):
            for locale in range(len(catalog[0])):
                want = reference.is_skipped(catalog, locale)
                self.assert_exactly(is_skipped(catalog, locale), want, catalog, locale)

    def test_the_text_0_is_a_text(self):
        zero = ((None, 0), "bundle", ((1,), (0,)))
        self.assert_exactly(shown_row(zero, (1,)), (0,))
        self.assert_exactly(own_text(zero, 1, 0), 0)
        self.assert_exactly(is_skipped(zero, 1), False)
        self.assert_exactly(laid_over(((None, 0), "bundle", ((1,), (1,))), zero)[2], ((1,), (0,)))


class Showing(Exact):
    def compare(self, catalog, wishes):
        told = (catalog, wishes)
        self.assert_exactly(shown_row(catalog, wishes), reference.shown_row(catalog, wishes), told)
        self.assert_exactly(chosen(catalog, wishes), reference.chosen(catalog, wishes), told)
        for key in range(len(catalog[2][0])):
            self.assert_exactly(shown(catalog, wishes, key), reference.shown(catalog, wishes, key), told)
            self.assert_exactly(place(catalog, wishes, key), reference.place(catalog, wishes, key), told)

    def test_the_sample_catalogs(self):
        for catalog in CATALOGS:
            for wishes in lists_for(catalog):
                self.compare(catalog, wishes)

    def test_all_catalogs_of_a_small_tree(self):
        for catalog in small_catalogs():
            for wishes in reference.lists_up_to(SMALL, 2):
                self.compare(catalog, wishes)

    def test_the_root_in_the_middle(self):
        catalog = ((None, 0, 0), "key", ((5, None), (None, None), (7, 8)))
        self.assert_exactly(shown_row(catalog, (1, 0, 2)), (5, 8))
        self.assert_exactly(shown_row(catalog, (1, 2)), (7, 8))
        bundled = ((None, 0, 0), "bundle", catalog[2])
        self.assert_exactly(shown_row(bundled, (1, 0, 2)), (5, None))
        self.assert_exactly(chosen(bundled, (1, 0, 2)), 1)
        self.assert_exactly(place(bundled, (1, 0, 2), 0), 0)
        empty = ((None, 0, 0), "bundle", ((None, None), (None, None), (7, 8)))
        self.assert_exactly(chosen(empty, (0, 1, 2)), 2)
        self.assert_exactly(shown_row(empty, (0, 1, 2)), (7, 8))

    def test_the_chosen_wish(self):
        self.assert_exactly(chosen(BUNDLED, ()), None)
        self.assert_exactly(chosen(BUNDLED, (0,)), 0)
        self.assert_exactly(chosen(LOW_ONLY, (0, 1, 2)), None)
        self.assert_exactly(chosen(LOW_ONLY, (0, 1, 3, 3)), 2)
        self.assert_exactly(chosen(LOW_ONLY, (1,) * 39 + (3,)), 39)
        self.assert_exactly(chosen(KEYED, (1, 2, 3)), None)
        self.assert_exactly(chosen(wishes=(2, 3), catalog=LOW_ONLY), 1)

    def test_no_text(self):
        for way in ("key", "bundle"):
            catalog = (NO_ENTRIES[0], way, NO_ENTRIES[2])
            for wishes in ((), (0,), (2, 1, 0), (1,) * 40):
                self.assert_exactly(shown_row(catalog, wishes), (None, None))
                self.assert_exactly(shown(catalog, wishes, 1), None)
                self.assert_exactly(place(catalog, wishes, 1), None)

    def test_by_name(self):
        self.assert_exactly(shown(key=1, wishes=(2,), catalog=KEYED), 2)
        self.assert_exactly(place(key=1, wishes=(2,), catalog=KEYED), 2)
        self.assert_exactly(shown_row(wishes=(2,), catalog=KEYED), (1, 2))

    def test_same_here(self):
        self.assert_exactly(same_here(KEYED, (1, 3), (3,)), False)
        self.assert_exactly(same_here(BUNDLED, (1, 3), (1,)), True)
        self.assert_exactly(same_here(ROOT_ALONE, (1, 3), ()), True)
        self.assert_exactly(same_here(other_wishes=(2,), wishes=(1,), catalog=KEYED), False)
        for catalog in CATALOGS:
            lists = reference.lists_up_to(catalog[0], 2 if len(catalog[0]) < 5 else 1)
            views = [reference.shown_row(catalog, wishes) for wishes in lists]
            for wishes, view in zip(lists, views):
                for other_wishes, other_view in zip(lists, views):
                    self.assert_exactly(same_here(catalog, wishes, other_wishes), view == other_view)


class NewCatalogs(Exact):
    def test_with_text(self):
        self.assert_exactly(with_text(KEYED, 1, 1, 9)[2], ((5, 6), (1, 9), (None, 2), (None, 3)))
        self.assert_exactly(with_text(KEYED, 0, 0, 0)[2], ((0, 6),) + ROWS[1:])
        self.assert_exactly(with_text(KEYED, 3, 1, None)[2], ROWS[:3] + ((None, None),))
        self.assert_exactly(with_text(KEYED, 3, 1)[2], ROWS[:3] + ((None, None),))
        self.assert_exactly(with_text(BUNDLED, 1, 1), BUNDLED)
        self.assert_exactly(with_text(BUNDLED, 1, 0, 1), BUNDLED)
        self.assert_exactly(with_text(text=4, key=0, locale=0, catalog=ONE_LOCALE), ((None,), "bundle", ((4,),)))

    def test_with_text_changes_one_text_alone(self):
        for catalog in CATALOGS:
            tree, way, rows = catalog
            for locale in range(len(tree)):
                for key in range(len(rows[0])):
                    for text in (None, 0, 9):
                        want = [list(row) for row in rows]
                        want[locale][key] = text
                        want = (tree, way, tuple(tuple(row) for row in want))
                        self.assert_exactly(with_text(catalog, locale, key, text), want)
            self.assertEqual(catalog[2], rows)

    def test_laid_over(self):
        over = (TREE, "key", ((None, 0), (None, 4), (None, None), (8, None)))
        self.assert_exactly(laid_over(KEYED, over), (TREE, "key", ((5, 0), (1, 4), (None, 2), (8, 3))))
        self.assert_exactly(laid_over(over, KEYED), (TREE, "key", ((5, 6), (1, 4), (None, 2), (8, 3))))
        self.assert_exactly(laid_over(other_catalog=over, catalog=KEYED), laid_over(KEYED, over))
        for catalog in CATALOGS:
            none = (catalog[0], catalog[1], ((None,) * len(catalog[2][0]),) * len(catalog[0]))
            self.assert_exactly(laid_over(catalog, catalog), catalog)
            self.assert_exactly(laid_over(none, catalog), catalog)
            self.assert_exactly(laid_over(catalog, none), catalog)

    def test_laid_over_unlike(self):
        others = (
            BUNDLED,
            ((None, 0, 0, 0), "key", ROWS),
            (TREE, "key", tuple(row[:1] for row in ROWS)),
            (TREE, "key", tuple(row + (None,) for row in ROWS)),
            (TREE[:3], "key", ROWS[:3]),
            NO_ENTRIES,
            ONE_LOCALE,
        )
        for other in others:
            for catalog, other_catalog in ((KEYED, other), (other, KEYED)):
                with self.assertRaises(Unlike) as caught:
                    laid_over(catalog, other_catalog)
                self.assertIs(type(caught.exception), Unlike)


class Shortened(Exact):
    def test_some(self):
        self.assert_exactly(shortened(KEYED, (1, 3)), (1, 3))
        self.assert_exactly(shortened(KEYED, ()), ())
        self.assert_exactly(shortened(KEYED, (0, 2, 3)), ())
        self.assert_exactly(shortened(BUNDLED, (1, 3)), (1,))
        self.assert_exactly(shortened(KEYED, (3, 1)), (1, 3))
        self.assert_exactly(shortened(wishes=(3, 1), catalog=KEYED), (1, 3))

    def test_it_need_not_be_a_part(self):
        catalog = ((None, 0, 0), "key", ((None,), (5,), (5,)))
        self.assert_exactly(shortened(catalog, (2,)), (1,))
        self.assert_exactly(shortened(((None, 0, 0), "bundle", catalog[2]), (2, 2)), (1,))

    def test_as_many_wishes_as_keys(self):
        rows = ((9, 9, 9, 9), (None, None, None, 1), (None, None, 2, 2), (None, 3, 3, 3), (4, 4, 4, 4), (5,) * 4)
        catalog = ((None, 0, 0, 0, 0, 0), "key", rows)
        self.assert_exactly(shortened(catalog, (1, 2, 3, 4, 5)), (1, 2, 3, 4))
        self.assert_exactly(shortened(catalog, (4, 1, 2, 3)), (4,))
        self.assert_exactly(shortened(catalog, (1, 1, 0, 5)), (1,))

    def test_all_lists_of_the_samples(self):
        for catalog in CATALOGS:
            for wishes in lists_for(catalog):
                if len(catalog[0]) < 10 or len(wishes) < 3:
                    want = reference.shortened(catalog, wishes)
                    self.assert_exactly(shortened(catalog, wishes), want, catalog, wishes)

    def test_all_catalogs_of_a_small_tree(self):
        for catalog in small_catalogs():
            for wishes in reference.lists_up_to(SMALL, 2):
                self.assert_exactly(shortened(catalog, wishes), reference.shortened(catalog, wishes))

    def test_three_wishes(self):
        for wishes in reference.lists_up_to(FOUR_KEYS[0], 3):
            self.assert_exactly(shortened(FOUR_KEYS, wishes), reference.shortened(FOUR_KEYS, wishes))

    def test_f7(self):
        for catalog in CATALOGS:
            most = len(catalog[2][0]) if catalog[1] == "key" else 1
            for wishes in lists_for(catalog):
                self.assertLessEqual(len(shortened(catalog, wishes)), most)

    def test_ten_locales(self):
        self.assert_exactly(shortened(TEN_LOCALES, (0, 0, 9, 3) * 10), (9,))


class PartingCatalog(Exact):
    def check(self, tree, way, wishes, other_wishes):
        got = parting_catalog(tree, way, wishes, other_wishes)
        told = (tree, way, wishes, other_wishes, got)
        if reference.slim(tree, wishes) == reference.slim(tree, other_wishes):
            self.assertIs(got, None, told)
        else:
            self.assertTrue(reference.is_catalog(got), told)
            self.assert_exactly(got[:2], (tree, way), told)
            self.assertEqual(len(got[2][0]), 1, told)
            self.assertNotEqual(
                reference.shown_row(got, wishes), reference.shown_row(got, other_wishes), told)
        self.assert_exactly(parting_catalog(tree, way, wishes, other_wishes), got, told)

    def test_all_lists_of_small_trees(self):
        for tree in reference.trees_up_to(4):
            lists = reference.lists_up_to(tree, 2)
            for way in ("key", "bundle"):
                for wishes in lists:
                    for other_wishes in lists:
                        self.check(tree, way, wishes, other_wishes)

    def test_longer_lists(self):
        lists = [(2, 1, 3, 2, 0), (2, 3), (3, 2), (2, 0, 3), (1, 2, 3), (1, 3, 2), (0, 1, 2, 3),
                 (3,) * 40, (0,) * 40, (0, 1, 2, 3) * 10, (3, 2, 1, 0) * 10]
        for way in ("key", "bundle"):
            for wishes in lists:
                for other_wishes in lists:
                    self.check(TREE, way, wishes, other_wishes)

    def test_trees_of_one_and_of_ten(self):
        for way in ("key", "bundle"):
            self.assertIs(parting_catalog((None,), way, (), (0, 0)), None)
            for tree in (samples.FLAT_TEN, samples.CHAIN_TEN, samples.MIXED_TEN):
                self.check(tree, way, tuple(range(10)), tuple(range(9, -1, -1)))
                self.check(tree, way, tuple(range(10)), tuple(range(9)))
                self.check(tree, way, (), (9,))
                self.check(tree, way, (9,), ())

    def test_by_name(self):
        got = parting_catalog(other_wishes=(1,), wishes=(3,), way="bundle", tree=TREE)
        self.assert_exactly(got, parting_catalog(TREE, "bundle", (3,), (1,)))


class FourKeys(Exact):
    def test_both_ways(self):
        self.assert_exactly(shown_row(FOUR_KEYS, (4, 5)), (6, 5, 4, 8))
        self.assert_exactly(shown_row(FOUR_KEYS, (5, 4)), (6, 5, 7, 8))
        self.assert_exactly(shown_row(FOUR_KEYS_BUNDLED, (4, 5)), (6, 5, 4, 9))
        self.assert_exactly(shown_row(FOUR_KEYS_BUNDLED, (5, 4)), (None, 1, 7, 8))
        self.assert_exactly(place(FOUR_KEYS, (5, 4), 1), 3)
        self.assert_exactly(place(FOUR_KEYS, (5, 4), 3), 5)


if __name__ == "__main__":
    unittest.main()
