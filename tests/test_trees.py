"""Tests of wishedtongues.trees [3], [4], [11], F1, and the examples of [9]."""

import unittest
from math import comb, perm

import reference
import samples
from samples import CHAIN_TEN, FLAT_TEN, MIXED_TEN, TREE
from wishedtongues.catalogs import shown_row
from wishedtongues.trees import (
    count_slim, is_locale, is_tree, is_wishes, looked, path, same_wishes, slim, tongue,
)


class Exact(unittest.TestCase):
    def assert_exactly(self, got, want, *told):
        # repr tells True from 1, and a tuple from a list.
        self.assertEqual(repr(got), repr(want), told)


class Examples(Exact):
    def test_the_path_of_2_and_its_tongue(self):
        self.assert_exactly(path(TREE, 2), (2, 1))
        self.assert_exactly(tongue(TREE, 2), 1)

    def test_the_slim_list(self):
        self.assert_exactly(slim(TREE, (2, 1, 3, 2, 0)), (2, 3))


class Predicates(Exact):
    def test_trees(self):
        for tree in ((None,), (None, 0), (None, 0, 0), (None, 0, 1), TREE, FLAT_TEN, CHAIN_TEN):
            self.assert_exactly(is_tree(tree), True, tree)
        for tree in reference.trees_up_to(5):
            self.assert_exactly(is_tree(tree), True, tree)

    def test_what_is_no_tree(self):
        for value in (
            (), [None], (0,), (None, None), (None, 1), (None, -1), (None, False), (None, 0, True),
            (None, 0, 2), (None, "0"), (None, (0,)), FLAT_TEN + (0,), (0, None), None, "tree", 0,
        ):
            self.assert_exactly(is_tree(value), False, value)

    def test_is_tree_of_any_value(self):
        values = samples.any_values()
        for tree in (TREE, FLAT_TEN, CHAIN_TEN, (None,), (None, 0)):
            values += samples.changed(tree)
        for first in samples.changed((None, 0, 1)):
            values += samples.changed(first)
        for value in values:
            self.assert_exactly(is_tree(value), reference.is_tree(value), value)
            self.assert_exactly(is_tree(value=value), reference.is_tree(value), value)

    def test_is_locale_of_any_value(self):
        for tree in ((None,), (None, 0), TREE, FLAT_TEN):
            for value in samples.any_values():
                self.assert_exactly(is_locale(tree, value), reference.is_locale(tree, value), value)
        self.assert_exactly(is_locale(value=3, tree=TREE), True)
        self.assert_exactly(is_locale(value=4, tree=TREE), False)
        self.assert_exactly(is_locale(TREE, 0), True)
        self.assert_exactly(is_locale(TREE, -1), False)
        self.assert_exactly(is_locale(TREE, True), False)
        self.assert_exactly(is_locale(FLAT_TEN, 9), True)
        self.assert_exactly(is_locale(FLAT_TEN, 10), False)

    def test_is_wishes_of_any_value(self):
        for tree in ((None,), (None, 0), TREE, FLAT_TEN):
            values = samples.any_values() + samples.changed((0, 1, 2)) + samples.changed((3, 3, 0, 9))
            for value in values:
                self.assert_exactly(is_wishes(tree, value), reference.is_wishes(tree, value), value)
        self.assert_exactly(is_wishes(value=(), tree=TREE), True)
        self.assert_exactly(is_wishes(TREE, (3, 3, 0, 3)), True)
        self.assert_exactly(is_wishes(TREE, [3]), False)
        self.assert_exactly(is_wishes(TREE, (True,)), False)
        self.assert_exactly(is_wishes(TREE, (1, 4)), False)
        self.assert_exactly(is_wishes(TREE, (1,) * 40), True)
        self.assert_exactly(is_wishes(TREE, (1,) * 39 + (4,)), False)


class Paths(Exact):
    def test_the_path_of_the_root_is_itself(self):
        for tree in ((None,), TREE, FLAT_TEN, CHAIN_TEN):
            self.assert_exactly(path(tree, 0), (0,))
            self.assert_exactly(tongue(tree, 0), 0)

    def test_paths_leave_out_the_root(self):
        self.assert_exactly(path(TREE, 1), (1,))
        self.assert_exactly(path(TREE, 3), (3,))
        self.assert_exactly(path(CHAIN_TEN, 9), (9, 8, 7, 6, 5, 4, 3, 2, 1))
        self.assert_exactly(path(FLAT_TEN, 9), (9,))
        self.assert_exactly(path(MIXED_TEN, 7), (7, 6, 4, 1))

    def test_tongues(self):
        self.assert_exactly([tongue(CHAIN_TEN, k) for k in range(10)], [0] + [1] * 9)
        self.assert_exactly([tongue(FLAT_TEN, k) for k in range(10)], list(range(10)))
        self.assert_exactly([tongue(MIXED_TEN, k) for k in range(10)], [0, 1, 2, 1, 1, 2, 1, 1, 8, 8])

    def test_all_small_trees(self):
        for tree in reference.trees_up_to(6) + [FLAT_TEN, CHAIN_TEN, MIXED_TEN]:
            for locale in range(len(tree)):
                self.assert_exactly(path(tree, locale), reference.path(tree, locale), tree)
                self.assert_exactly(tongue(tree, locale), reference.tongue(tree, locale), tree)

    def test_by_name(self):
        self.assert_exactly(path(locale=2, tree=TREE), (2, 1))
        self.assert_exactly(tongue(locale=2, tree=TREE), 1)


class SlimLists(Exact):
    def test_the_root(self):
        self.assert_exactly(slim(TREE, ()), ())
        self.assert_exactly(slim(TREE, (0,)), ())
        self.assert_exactly(slim(TREE, (0, 0)), ())
        self.assert_exactly(slim(TREE, (1, 0)), (1,))
        self.assert_exactly(slim(TREE, (1, 0, 3)), (1, 0, 3))
        self.assert_exactly(slim(TREE, (0, 3)), (0, 3))
        self.assert_exactly(slim(TREE, (0, 3, 0)), (0, 3))
        self.assert_exactly(slim(TREE, (2, 0, 1)), (2,))

    def test_a_wish_on_the_path_of_an_earlier_one(self):
        self.assert_exactly(slim(TREE, (2, 1)), (2,))
        self.assert_exactly(slim(TREE, (1, 2)), (1, 2))
        self.assert_exactly(slim(TREE, (3, 3, 3)), (3,))
        self.assert_exactly(slim(TREE, (1, 2, 1, 2)), (1, 2))
        self.assert_exactly(slim(CHAIN_TEN, tuple(range(10))), tuple(range(10)))
        self.assert_exactly(slim(CHAIN_TEN, tuple(range(9, -1, -1))), (9,))

    def test_long_lists(self):
        self.assert_exactly(slim(FLAT_TEN, (0,) * 40), ())
        self.assert_exactly(slim(FLAT_TEN, (9,) * 40), (9,))
        self.assert_exactly(slim(FLAT_TEN, tuple(range(10)) * 4), tuple(range(10)))
        self.assert_exactly(looked(FLAT_TEN, tuple(range(9, 0, -1)) * 4), tuple(range(9, -1, -1)))
        self.assert_exactly(slim(TREE, (0, 3) * 1000), (0, 3))

    def test_all_lists_of_small_trees(self):
        for tree in reference.trees_up_to(4):
            for wishes in reference.lists_up_to(tree, 4):
                self.assert_exactly(slim(tree, wishes), reference.slim(tree, wishes), tree, wishes)
                self.assert_exactly(looked(tree, wishes), reference.looked(tree, wishes), tree, wishes)

    def test_slim_is_slim(self):
        for tree in reference.trees_up_to(4):
            for wishes in reference.lists_up_to(tree, 4):
                once = slim(tree, wishes)
                self.assert_exactly(slim(tree, once), once, tree, wishes)

    def test_looked(self):
        self.assert_exactly(looked(TREE, ()), (0,))
        self.assert_exactly(looked(TREE, (0,)), (0,))
        self.assert_exactly(looked(TREE, (2, 3)), (2, 1, 3, 0))
        self.assert_exactly(looked(TREE, (1, 2)), (1, 2, 0))
        self.assert_exactly(looked(TREE, (1, 0, 2)), (1, 0, 2))
        self.assert_exactly(looked(TREE, (0, 2)), (0, 2, 1))
        self.assert_exactly(looked((None,), (0, 0)), (0,))

    def test_by_name(self):
        self.assert_exactly(slim(wishes=(2, 1), tree=TREE), (2,))
        self.assert_exactly(looked(wishes=(2, 1), tree=TREE), (2, 1, 0))


class SameWishes(Exact):
    def test_some(self):
        self.assert_exactly(same_wishes(TREE, (), (0, 0)), True)
        self.assert_exactly(same_wishes(TREE, (2, 1, 3, 2, 0), (2, 3)), True)
        self.assert_exactly(same_wishes(TREE, (2, 3), (3, 2)), False)
        self.assert_exactly(same_wishes(TREE, (0, 3), (3,)), False)
        self.assert_exactly(same_wishes(TREE, (1, 2), (2,)), False)
        self.assert_exactly(same_wishes(tree=TREE, other_wishes=(1, 0), wishes=(1,)), True)

    def test_f1_each_way_with_one_key(self):
        """The same slim list, just if the same shown row in each catalog."""
        for tree in reference.trees_up_to(3) + [(None, 0, 1, 0), (None, 0, 1, 2)]:
            lists = reference.lists_up_to(tree, 3 if len(tree) < 4 else 2)
            for way in ("key", "bundle"):
                catalogs = reference.catalogs_of(tree, way, 1, (None, 0, 1))
                views = [tuple(reference.shown_row(catalog, wishes) for catalog in catalogs)
                         for wishes in lists]
                for wishes, view in zip(lists, views):
                    for other_wishes, other_view in zip(lists, views):
                        self.assert_exactly(
                            same_wishes(tree, wishes, other_wishes), view == other_view,
                            tree, way, wishes, other_wishes)

    def test_f1_with_two_keys(self):
        """A list and its slim list have the same shown row, for both ways."""
        for catalog in samples.CATALOGS:
            tree = catalog[0]
            for wishes in reference.lists_up_to(tree, 2) + [tuple(range(len(tree))) * 4]:
                self.assertEqual(shown_row(catalog, wishes), shown_row(catalog, slim(tree, wishes)))


class CountSlim(Exact):
    def test_some(self):
        self.assert_exactly(count_slim((None,)), 1)
        self.assert_exactly(count_slim((None, 0)), 3)
        # (), 1, 2, 0 1, 0 2, 1 2, 0 1 2, 1 0 2
        self.assert_exactly(count_slim((None, 0, 1)), 8)
        # The same ones, and 2 1, 0 2 1, 2 0 1
        self.assert_exactly(count_slim((None, 0, 0)), 11)
        self.assert_exactly(count_slim(tree=(None, 0)), 3)

    def test_all_small_trees(self):
        for tree in reference.trees_up_to(5):
            many = len(reference.slim_lists(tree, len(tree)))
            self.assert_exactly(count_slim(tree), many, tree)

    def test_flat_trees_and_chains(self):
        for below in range(10):
            flat = sum((size + 1) * perm(below, size) for size in range(below + 1))
            self.assert_exactly(count_slim((None,) + (0,) * below), flat)
            chain = sum((size + 1) * comb(below, size) for size in range(below + 1))
            self.assert_exactly(count_slim((None,) + tuple(range(below))), chain)

    def test_equal_forms_of_a_tree_have_as_many(self):
        self.assertEqual(count_slim((None, 0, 1, 0, 3, 3)), count_slim((None, 0, 0, 1, 1, 2)))
        self.assertEqual(count_slim((None, 0, 0, 0, 3)), count_slim((None, 0, 1, 0, 0)))


if __name__ == "__main__":
    unittest.main()
