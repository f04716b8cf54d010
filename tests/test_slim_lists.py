"""Tests of slim_lists [11]."""

import unittest

import reference
from samples import CHAIN_TEN, FLAT_TEN, MIXED_TEN, TREE
from wishedtongues.trees import count_slim, slim, slim_lists


class SlimLists(unittest.TestCase):
    def test_all_small_trees(self):
        for tree in reference.trees_up_to(4):
            for longest in range(7):
                want = reference.slim_lists(tree, longest)
                self.assertEqual(list(slim_lists(tree, longest=longest)), want, (tree, longest))

    def test_most_cuts_the_end_off(self):
        for tree in reference.trees_up_to(4):
            want = reference.slim_lists(tree, 10)
            for most in (1, 2, 3, 7, len(want) - 1, len(want), len(want) + 1, 1000):
                if most > 0:
                    got = list(slim_lists(tree, longest=10, most=most))
                    self.assertEqual(got, want[:most], (tree, most))

    def test_kinds(self):
        for wishes in slim_lists(TREE):
            self.assertIs(type(wishes), tuple)
            for wish in wishes:
                self.assertIs(type(wish), int)

    def test_the_empty_list_is_the_first(self):
        for tree in ((None,), TREE, FLAT_TEN, CHAIN_TEN):
            self.assertEqual(list(slim_lists(tree, longest=0)), [()])
            self.assertEqual(list(slim_lists(tree, longest=10, most=1)), [()])
        self.assertEqual(list(slim_lists((None,), longest=10)), [()])

    def test_both_left_out(self):
        self.assertEqual(list(slim_lists(TREE)), reference.slim_lists(TREE, 2))
        self.assertEqual(list(slim_lists(tree=FLAT_TEN)), reference.slim_lists(FLAT_TEN, 2))
        self.assertEqual(len(list(slim_lists(FLAT_TEN))), 91)
        self.assertEqual(max(len(wishes) for wishes in slim_lists(CHAIN_TEN)), 2)

    def test_one_left_out(self):
        self.assertEqual(list(slim_lists(TREE, most=5)), reference.slim_lists(TREE, 2)[:5])
        self.assertEqual(list(slim_lists(TREE, longest=3)), reference.slim_lists(TREE, 3))
        self.assertEqual(len(list(slim_lists(FLAT_TEN, longest=10))), 1000)

    def test_all_lists_of_a_tree(self):
        for tree in ((None, 0, 1, 2, 3, 4), (None, 0, 1, 0, 3), (None, 0, 0, 0, 0)):
            self.assertEqual(len(list(slim_lists(tree, longest=10))), count_slim(tree), tree)

    def test_trees_of_ten(self):
        for tree in (FLAT_TEN, CHAIN_TEN, MIXED_TEN):
            got = list(slim_lists(tree, longest=10, most=1000))
            self.assertEqual(len(got), 1000)
            self.assertEqual(got, sorted(got, key=lambda wishes: (len(wishes), wishes)))
            self.assertEqual(len(set(got)), 1000)
            for wishes in got:
                self.assertEqual(slim(tree, wishes), wishes)
            want = reference.slim_lists(tree, 3)
            self.assertEqual(got[:len(want)], want[:1000])

    def test_long_lists_of_a_chain(self):
        """The chain of seven locales below the root has seven slim lists of eight wishes."""
        eight = CHAIN_TEN[:8]
        got = list(slim_lists(eight, longest=8))
        self.assertEqual(len(got), count_slim(eight))
        self.assertEqual(got[-1], (1, 2, 3, 4, 5, 6, 0, 7))
        self.assertEqual(len(list(slim_lists(eight, longest=7))), count_slim(eight) - 7)

    def test_one_iteration_inside_of_another(self):
        want = reference.slim_lists(TREE, 2)
        pairs = [(one, two) for one in slim_lists(TREE) for two in slim_lists(TREE)]
        self.assertEqual(pairs, [(one, two) for one in want for two in want])

    def test_two_iterations_side_by_side(self):
        want = reference.slim_lists(TREE, 2)
        both = list(zip(slim_lists(TREE), slim_lists(TREE, longest=3)))
        self.assertEqual(both, [(wishes, wishes) for wishes in want])

    def test_left_behind_early(self):
        for _ in range(3):
            seen = []
            for wishes in slim_lists(TREE):
                seen.append(wishes)
                if len(seen) == 3:
                    break
            self.assertEqual(seen, [(), (1,), (2,)])
        self.assertEqual(list(slim_lists(TREE)), reference.slim_lists(TREE, 2))

    def test_longest_and_most_by_name_only(self):
        with self.assertRaises(TypeError):
            list(slim_lists(TREE, 2))
        with self.assertRaises(TypeError):
            list(slim_lists(TREE, 2, 5))


if __name__ == "__main__":
    unittest.main()
