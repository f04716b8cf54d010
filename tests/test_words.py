"""Tests of wishedtongues.words [18]."""

import unittest
from itertools import product

import reference
import samples
from samples import BUNDLED, CATALOGS, CHAIN_TEN, FLAT_TEN, FOUR_KEYS, KEYED, MIXED_TEN, ONE_LOCALE, TREE
from wishedtongues.errors import InvalidCatalog, InvalidDoor, InvalidTree, InvalidWishes, InvalidWords
from wishedtongues.words import (
    read_catalog, read_door, read_tree, read_wishes,
    write_catalog, write_door, write_tree, write_wishes,
)

FORK = (None, 0, 0)


def starts_of(texts):
    """All beginnings of the lists of words of the texts."""
    found = set()
    for text in texts:
        words = text.split(" ")
        found.update(tuple(words[:many]) for many in range(1, len(words) + 1))
    return found


def wrong_place(starts, words):
    """The number of the first word that cannot stand, or the number of words."""
    for place in range(len(words)):
        if tuple(words[:place + 1]) not in starts:
            return place
    return len(words)


def mutated(words, others):
    """The words cut short, and with another one at each place, in the place of one or beside it."""
    found = [words[:many] for many in range(1, len(words) + 1)]
    for at in range(len(words) + 1):
        found += [words[:at] + words[at + 1:], words[:at] + words[at:at + 1] * 2 + words[at + 1:]]
        for other in others:
            found += [words[:at] + [other] + words[at + 1:], words[:at] + [other] + words[at:]]
    return [given for given in found if given]


class Words(unittest.TestCase):
    def assert_refused(self, place, reader, *given):
        with self.assertRaises(InvalidWords, msg=given) as caught:
            reader(*given)
        self.assertEqual(repr(caught.exception.place), repr(place), given)

    def assert_read(self, texts, starts, words, reader, *ahead):
        """The words are read if they are among the texts, and refused at the right place if not."""
        text = " ".join(words)
        if text in texts:
            self.assertEqual(repr(reader(*ahead, text)), repr(texts[text]))
        else:
            self.assert_refused(wrong_place(starts, words), reader, *ahead, text)


class Wishes(Words):
    def test_examples(self):
        for wishes, words in (((), "-"), ((0,), "a"), ((2, 0, 3), "c a d"), ((1, 1), "b b")):
            self.assertEqual(write_wishes(TREE, wishes), words)
            self.assertEqual(repr(read_wishes(TREE, words)), repr(wishes))
            self.assertEqual(write_wishes(wishes=wishes, tree=TREE), words)
            self.assertEqual(read_wishes(words=words, tree=TREE), wishes)

    def test_the_letters(self):
        self.assertEqual(write_wishes(FLAT_TEN, tuple(range(10))), "a b c d e f g h i j")
        self.assertEqual(read_wishes(FLAT_TEN, "a b c d e f g h i j"), tuple(range(10)))

    def test_read_as_it_was_written(self):
        for tree in reference.trees_up_to(3) + [MIXED_TEN]:
            for wishes in reference.lists_up_to(tree, 3 if len(tree) < 4 else 2):
                self.assertEqual(read_wishes(tree, write_wishes(tree, wishes)), wishes)
        self.assertEqual(read_wishes(TREE, write_wishes(TREE, (3,) * 40)), (3,) * 40)

    def test_wrong_words(self):
        for words, place in (
            ("", 0), (" ", 0), ("e", 0), ("a e", 1), ("a b c d j", 4), ("- -", 1), ("- a", 1), ("a -", 1),
            ("a  b", 1), (" a", 0), ("a ", 1), ("- ", 1), ("A", 0), ("ab", 0), ("a b,", 1), ("0", 0),
            ("a\nb", 0), ("a\n", 0), ("--", 0), ("tree", 0), ("a b c tree", 3), ("k", 0), ("`", 0),
        ):
            self.assert_refused(place, read_wishes, TREE, words)
        self.assert_refused(39, read_wishes, TREE, "a " * 39 + "e")
        self.assert_refused(0, read_wishes, (None,), "b")
        self.assertEqual(read_wishes((None,), "a a"), (0, 0))

    def test_by_the_definition(self):
        texts = {write_wishes(FORK, wishes): wishes for wishes in reference.lists_up_to(FORK, 4)}
        starts = starts_of(texts)
        others = ("a", "b", "c", "d", "-", "", "ab", "C", "1")
        for many in range(1, 4):
            for words in product(others, repeat=many):
                self.assert_read(texts, starts, list(words), read_wishes, FORK)

    def test_wrong_arguments(self):
        for tree in ((), [None], None, "tree", (None, 1)):
            with self.assertRaises(InvalidTree):
                write_wishes(tree, None)
            with self.assertRaises(InvalidTree):
                read_wishes(tree, "!")
        for wishes in ([], (4,), None, "-", (True,), 0):
            with self.assertRaises(InvalidWishes):
                write_wishes(TREE, wishes)


class Trees(Words):
    def test_examples(self):
        for tree, words in (
            ((None,), "tree"), ((None, 0), "tree a"), (TREE, "tree a b a"),
            (CHAIN_TEN, "tree a b c d e f g h i"), (FLAT_TEN, "tree a a a a a a a a a"),
        ):
            self.assertEqual(write_tree(tree), words)
            self.assertEqual(write_tree(tree=tree), words)
            self.assertEqual(repr(read_tree(words)), repr(tree))
            self.assertEqual(read_tree(words=words), tree)

    def test_read_as_it_was_written(self):
        for tree in reference.trees_up_to(5) + [MIXED_TEN]:
            self.assertEqual(read_tree(write_tree(tree)), tree)

    def test_wrong_words(self):
        for words, place in (
            ("", 0), (" ", 0), ("tre", 0), ("Tree", 0), ("a", 0), ("-", 0), ("tree ", 1), (" tree", 0),
            ("tree b", 1), ("tree -", 1), ("tree a c", 2), ("tree a b d", 3), ("tree a  b", 2),
            ("tree tree", 1), ("tree a rows", 2), ("tree rows", 1), ("tree a a aa", 3), ("tree a A", 2),
            ("tree 0", 1), ("tree a\n", 1), ("tree\na", 0), ("key tree a", 0), ("trees a", 0),
            ("tree a a a a a a a a a a", 10), ("tree a b c d e f g h i j", 10),
            ("tree a a a a a a a a a ", 10), ("tree a a a a a a a a a b b", 10),
            ("tree a a a a a a a a j", 9), ("tree a a a a a a a j a", 8),
        ):
            self.assert_refused(place, read_tree, words)

    def test_by_the_definition(self):
        texts = {write_tree(tree): tree for tree in reference.trees_up_to(6)}
        starts = starts_of(texts)
        others = ("tree", "a", "b", "c", "d", "-", "", "rows", "ab", "B")
        for tree in reference.trees_up_to(4):
            for words in mutated(write_tree(tree).split(" "), others):
                self.assert_read(texts, starts, words, read_tree)

    def test_wrong_trees(self):
        for tree in samples.any_values():
            if not reference.is_tree(tree):
                with self.assertRaises(InvalidTree):
                    write_tree(tree)


class Catalogs(Words):
    def test_examples(self):
        for catalog, words in (
            (KEYED, "key tree a b a rows 56 1- -2 -3"),
            (BUNDLED, "bundle tree a b a rows 56 1- -2 -3"),
            (((None,), "key", ((5, None),)), "key tree rows 5-"),
            (ONE_LOCALE, "bundle tree rows 7"),
            (((None, 0), "key", ((None,) * 4, (0, 9, None, 1))), "key tree a rows ---- 09-1"),
        ):
            self.assertEqual(write_catalog(catalog), words)
            self.assertEqual(write_catalog(catalog=catalog), words)
            self.assertEqual(repr(read_catalog(words)), repr(catalog))
            self.assertEqual(read_catalog(words=words), catalog)

    def test_read_as_it_was_written(self):
        for catalog in CATALOGS:
            self.assertEqual(read_catalog(write_catalog(catalog)), catalog)
        for way in ("key", "bundle"):
            for tree in reference.trees_up_to(3):
                for catalog in reference.catalogs_of(tree, way, 2, (None, 0, 9)):
                    self.assertEqual(read_catalog(write_catalog(catalog)), catalog)

    def test_words_cut_short(self):
        for catalog in CATALOGS:
            words = write_catalog(catalog).split(" ")
            for many in range(1, len(words)):
                self.assert_refused(many, read_catalog, " ".join(words[:many]))
                self.assert_refused(many, read_catalog, " ".join(words[:many] + [""]))
            self.assert_refused(len(words), read_catalog, " ".join(words + ["5"]))
            self.assert_refused(0, read_catalog, " ".join([""] + words))

    def test_wrong_words(self):
        ten = "key tree" + " a" * 9
        for words, place in (
            ("", 0), (" ", 0), ("-", 0), ("tree rows 5", 0), ("Key tree rows 5", 0), ("keys", 0),
            ("key", 1), ("bundle", 1), ("key rows 5", 1), ("key key tree", 1), ("key tree", 2),
            ("key  tree rows 5", 1), ("key tree  rows 5", 2), ("key tree rows  5", 3), ("key tree rows 5 ", 4),
            ("key tree b rows 5 5", 2), ("key tree a", 3), ("key tree a 5", 3), ("key tree a tree", 3),
            ("key tree rows", 3), ("key tree rows rows", 3), ("key tree rows a", 3), ("key tree rows 5a", 3),
            ("key tree rows 55555", 3), ("key tree rows -----", 3), ("key tree rows 5 5", 4),
            ("key tree a rows 5", 5), ("key tree a rows 5 55", 5), ("key tree a rows 5- 5", 5),
            ("key tree a rows 5- -5 --", 6), ("key tree a rows 5- 5- rows", 6), ("key tree a rows 5\n 5-", 4),
            (ten, 11), (ten + " a", 11), (ten + " a rows", 11), (ten + " j", 11), (ten + " rows", 12),
            (ten + " rows" + " 1-" * 9, 21), (ten + " rows" + " 1-" * 11, 22), (ten + " rows" + " 1-" * 9 + " 1", 21),
        ):
            self.assert_refused(place, read_catalog, words)
        self.assertEqual(read_catalog(ten + " rows" + " 1-" * 10), (FLAT_TEN, "key", ((1, None),) * 10))

    def test_by_the_definition(self):
        texts = {}
        for tree in reference.trees_up_to(3):
            for keys in range(1, 5):
                for catalog in reference.catalogs_of(tree, "key", keys, (None, 5)):
                    texts[write_catalog(catalog)] = catalog
                for catalog in reference.catalogs_of(tree, "bundle", keys, (None,)):
                    texts[write_catalog(catalog)] = catalog
        starts = starts_of(texts)
        others = ("tree", "key", "bundles", "rows", "a", "b", "c", "", "-", "5", "5-", "-55", "5555", "-----", "5a")
        for text, catalog in texts.items():
            if len(catalog[0]) < 3 and (len(catalog[2][0]) < 3 or catalog[1] == "bundle"):
                for words in mutated(text.split(" "), others):
                    if catalog[1] == "key" or "5" not in " ".join(words):
                        self.assert_read(texts, starts, words, read_catalog)

    def test_wrong_catalogs(self):
        for catalog in samples.any_values() + samples.changed(BUNDLED):
            if not reference.is_catalog(catalog):
                with self.assertRaises(InvalidCatalog):
                    write_catalog(catalog)


class Doors(Words):
    def test_examples(self):
        for door, words in (
            (("only", ()), "only -"), (("only", (1, 3)), "only b d"), (("lift", ()), "lift -"),
            (("lift", (0,)), "lift a"), (("swap", ()), "swap -"), (("swap", ((1, 2),)), "swap b>c"),
            (("swap", ((0, 3), (2, 2))), "swap a>d c>c"), (("head", ()), "head -"),
            (("head", (3, 0, 3)), "head d a d"), (("pad", ()), "pad -"), (("pad", (2, 1)), "pad c b"),
        ):
            self.assertEqual(write_door(TREE, door), words)
            self.assertEqual(write_door(door=door, tree=TREE), words)
            self.assertEqual(repr(read_door(TREE, words)), repr(door))
            self.assertEqual(read_door(words=words, tree=TREE), door)

    def test_read_as_it_was_written(self):
        for tree in reference.trees_up_to(3) + [TREE]:
            for door in reference.doors_of(tree, 2):
                self.assertEqual(repr(read_door(tree, write_door(tree, door))), repr(door))

    def test_words_cut_short(self):
        for word in ("only", "lift", "swap", "head", "pad"):
            self.assert_refused(1, read_door, TREE, word)
            self.assert_refused(1, read_door, TREE, word + " ")
            self.assert_refused(2, read_door, TREE, word + " - ")
            self.assert_refused(2, read_door, TREE, word + " - a")
            self.assert_refused(2, read_door, TREE, word + " - -")
            self.assert_refused(0, read_door, TREE, " " + word + " -")
            self.assert_refused(0, read_door, TREE, word.upper() + " -")

    def test_wrong_words(self):
        for words, place in (
            ("", 0), (" ", 0), ("-", 0), ("a", 0), ("a>b", 0), ("onlya", 0), ("door only a", 0),
            ("only e", 1), ("only b a", 2), ("only b b", 2), ("only a  b", 2), ("only a -", 2), ("only a>b", 1),
            ("lift c d e", 3), ("lift d a", 2), ("lift ab", 1), ("lift a b b", 3), ("lift b c a", 3),
            ("swap a", 1), ("swap a>", 1), ("swap >a", 1), ("swap a>e", 1), ("swap e>a", 1), ("swap a-b", 1),
            ("swap a>b a>c", 2), ("swap b>a a>b", 2), ("swap a>b b>c -", 3), ("swap a>b  b>c", 2),
            ("swap a>b>c", 1), ("swap ab", 1), ("swap a>b c>d b>a", 3), ("swap A>b", 1), ("swap a > b", 1),
            ("swap a>b a>b", 2), ("swap a>- ", 1), ("swap b>c c", 2), ("swap \n>a", 1),
            ("head a -", 2), ("head e", 1), ("head a b only", 3), ("pad a\n", 1), ("pad d d d 3", 4),
        ):
            self.assert_refused(place, read_door, TREE, words)
        self.assert_refused(2, read_door, (None,), "only a a")
        self.assert_refused(1, read_door, (None,), "swap a>b")

    def test_by_the_definition(self):
        texts = {write_door(FORK, door): door for door in reference.doors_of(FORK, 4)}
        starts = starts_of(texts)
        others = ("only", "swap", "pad", "a", "b", "c", "d", "-", "a>b", "b>a", "b>c", "c>b", "a>d", "d>a", "", "ab")
        for many in range(1, 4):
            for words in product(others, repeat=many):
                self.assert_read(texts, starts, list(words), read_door, FORK)
        for text in texts:
            for words in mutated(text.split(" "), ("lift", "a", "c", "-", "c>a", "", "d"))[::7]:
                if len(words) < 5:
                    self.assert_read(texts, starts, words, read_door, FORK)

    def test_wrong_arguments(self):
        for tree in ((), [None], None, "tree", (None, 1)):
            with self.assertRaises(InvalidTree):
                write_door(tree, None)
            with self.assertRaises(InvalidTree):
                read_door(tree, "!")
        for door in samples.any_values() + samples.changed(("swap", ((0, 1), (2, 3)))):
            if not reference.is_door(TREE, door):
                with self.assertRaises(InvalidDoor):
                    write_door(TREE, door)


class Long(Words):
    def test_as_many_words_as_a_string_may_have(self):
        self.assertEqual(len(read_wishes(TREE, "a " * 1999 + "b")), 2000)
        self.assert_refused(1999, read_wishes, TREE, "a " * 1999 + "e")
        self.assert_refused(0, read_tree, "x" * 4000)
        self.assert_refused(0, read_catalog, " " * 4000)
        self.assertEqual(FOUR_KEYS, read_catalog("key tree a a c d a rows -1-9 2--- 3-4- -5-- 6--- --78"))


if __name__ == "__main__":
    unittest.main()
