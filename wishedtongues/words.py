"""Wish lists, trees, catalogs and doors as words."""

from wishedtongues.catalogs import MOST_KEYS, check_catalog
from wishedtongues.doors import check_door
from wishedtongues.spelling import (
    LETTERS,
    ascending_from,
    check_end,
    check_word,
    has_none_at,
    indexes_from,
    is_sign,
    letter_of,
    pairs_from,
    row_at,
    wishes_from,
    word_of_row,
    words_of_pairs,
    words_of_wishes,
)
from wishedtongues.trees import MOST_LOCALES, check_tree, check_wishes


def words_of_tree(tree):
    """The list of the words of a tree."""
    return ["tree"] + [letter_of(parent) for parent in tree[1:]]


def tree_from(words, start):
    """The tree of as many parents as stand from this number on."""
    tree = [None]
    for word in words[start:start + MOST_LOCALES - 1]:
        if not is_sign(LETTERS[:len(tree)], word):
            break
        tree.append(LETTERS.index(word))
    return tuple(tree)


def rows_from(words, start, many):
    """So many rows of as many keys, from this number on."""
    rows = [row_at(words, start, 1, MOST_KEYS)]
    keys = len(rows[0])
    for at in range(start + 1, start + many):
        rows.append(row_at(words, at, keys, keys))
    return tuple(rows)


def told_from(letters, word, words):
    """What stands behind the first word of a door."""
    if has_none_at(words, 1):
        return ()
    if word == "swap":
        return pairs_from(letters, words, 1)
    if word in ("only", "lift"):
        return ascending_from(letters, words, 1)
    return indexes_from(letters, words, 1)


def write_wishes(tree, wishes):
    """The words of a wish list."""
    check_tree(tree)
    check_wishes(tree, wishes)
    return words_of_wishes(wishes)


def read_wishes(tree, words):
    """The wish list of these words."""
    check_tree(tree)
    return wishes_from(LETTERS[:len(tree)], words.split(" "), 0)


def write_tree(tree):
    """The words of a tree."""
    check_tree(tree)
    return " ".join(words_of_tree(tree))


def read_tree(words):
    """The tree of these words."""
    parts = words.split(" ")
    check_word(parts, 0, ("tree",))
    tree = tree_from(parts, 1)
    # Behind the word tree there is a word for each locale but the root.
    check_end(parts, len(tree))
    return tree


def write_catalog(catalog):
    """The words of a catalog."""
    check_catalog(catalog)
    tree, way, rows = catalog
    return " ".join([way] + words_of_tree(tree) + ["rows"] + [word_of_row(row) for row in rows])


def read_catalog(words):
    """The catalog of these words."""
    parts = words.split(" ")
    check_word(parts, 0, ("key", "bundle"))
    check_word(parts, 1, ("tree",))
    tree = tree_from(parts, 2)
    # Ahead of the word rows stand the way, the word tree and the parents.
    start = len(tree) + 2
    check_word(parts, start - 1, ("rows",))
    rows = rows_from(parts, start, len(tree))
    check_end(parts, start + len(tree))
    return (tree, parts[0], rows)


def write_door(tree, door):
    """The words of a door."""
    check_tree(tree)
    check_door(tree, door)
    word, told = door
    if word == "swap":
        return word + " " + words_of_pairs(told)
    return word + " " + words_of_wishes(told)


def read_door(tree, words):
    """The door of these words."""
    check_tree(tree)
    parts = words.split(" ")
    check_word(parts, 0, ("only", "lift", "swap", "head", "pad"))
    return (parts[0], told_from(LETTERS[:len(tree)], parts[0], parts))
