"""Catalogs of texts, and what wish lists show in them."""

from wishedtongues.errors import InvalidCatalog, InvalidKey, InvalidText, InvalidWay, Unlike
from wishedtongues.kinds import is_integer_within, is_tuple
from wishedtongues.paths import path_of
from wishedtongues.rows import entries_of, row_over, rows_with
from wishedtongues.showing import (
    chosen_of,
    first_place,
    first_text,
    parting_texts,
    row_of,
    shortest_with_row,
    skips,
    sought,
)
from wishedtongues.trees import check_locale, check_tree, check_wishes, is_tree

MOST_KEYS = 4
LAST_TEXT = 9


def is_way(value):
    """Whether any value is a way to fall back."""
    return isinstance(value, str) and value in ("key", "bundle")


def is_text(value):
    """Whether any value is a text."""
    return is_integer_within(value, 0, LAST_TEXT)


def is_text_or_none(value):
    """Whether any value is a text, or None."""
    return value is None or is_text(value)


def is_row(value):
    """Whether any value can be the row of a locale."""
    if not is_tuple(value) or not 1 <= len(value) <= MOST_KEYS:
        return False
    return all([is_text_or_none(text) for text in value])


def are_rows(value, many):
    """Whether any value can be the rows of a catalog with so many locales."""
    if not is_tuple(value) or len(value) != many:
        return False
    if not all([is_row(row) for row in value]):
        return False
    return all([len(row) == len(value[0]) for row in value])


def is_catalog(value):
    """Whether any value is a catalog."""
    if not is_tuple(value) or len(value) != 3:
        return False
    tree, way, rows = value
    return is_tree(tree) and is_way(way) and are_rows(rows, len(tree))


def check_way(way):
    """Raise InvalidWay unless this is a way to fall back."""
    if not is_way(way):
        raise InvalidWay("this is no way")


def check_catalog(catalog):
    """Raise InvalidCatalog unless this is a catalog."""
    if not is_catalog(catalog):
        raise InvalidCatalog("this is no catalog")


def has_key(catalog, value):
    """Whether any value is a key of the catalog."""
    return is_integer_within(value, 0, count_keys(catalog) - 1)


def check_key(catalog, key):
    """Raise InvalidKey unless this is a key of the catalog."""
    if not has_key(catalog, key):
        raise InvalidKey("this is no key of the catalog")


def check_text(text):
    """Raise InvalidText unless this is a text."""
    if not is_text(text):
        raise InvalidText("this is no text")


def check_text_or_none(text):
    """Raise InvalidText unless this is a text, or None."""
    if not is_text_or_none(text):
        raise InvalidText("this is no text")


def check_one_kind(catalog, other_catalog):
    """Raise Unlike unless the catalogs are of one kind."""
    if kind_of(catalog) != kind_of(other_catalog):
        raise Unlike("the catalogs are not of one kind")


def count_keys(catalog):
    """How many keys a catalog has."""
    return len(catalog[2][0])


def kind_of(catalog):
    """What two catalogs of one kind have in common."""
    tree, way, _ = catalog
    return (tree, way, count_keys(catalog))


def entries(catalog):
    """The ascending list of the entries."""
    check_catalog(catalog)
    return entries_of(catalog[2])


def own_text(catalog, locale, key):
    """The text of the first locale of the path that has one for the key, or None."""
    check_catalog(catalog)
    check_locale(catalog[0], locale)
    check_key(catalog, key)
    return first_text(catalog[2], path_of(catalog[0], locale), key)


def is_skipped(catalog, locale):
    """Whether there is no entry of any key on the path of the locale."""
    check_catalog(catalog)
    check_locale(catalog[0], locale)
    return skips(catalog, locale)


def shown(catalog, wishes, key):
    """The text that the wish list shows for the key, or None."""
    check_catalog(catalog)
    check_wishes(catalog[0], wishes)
    check_key(catalog, key)
    return first_text(catalog[2], sought(catalog, wishes), key)


def place(catalog, wishes, key):
    """The locale at which the wish list finds its text for the key, or None."""
    check_catalog(catalog)
    check_wishes(catalog[0], wishes)
    check_key(catalog, key)
    return first_place(catalog[2], sought(catalog, wishes), key)


def chosen(catalog, wishes):
    """The index of the chosen wish for the way "bundle", or None."""
    check_catalog(catalog)
    check_wishes(catalog[0], wishes)
    if catalog[1] == "key":
        return None
    return chosen_of(catalog, wishes)


def shown_row(catalog, wishes):
    """The tuple of what the wish list shows for each key."""
    check_catalog(catalog)
    check_wishes(catalog[0], wishes)
    return row_of(catalog, wishes)


def with_text(catalog, locale, key, text=None):
    """The catalog with this text there, or without one there if text is None."""
    check_catalog(catalog)
    check_locale(catalog[0], locale)
    check_key(catalog, key)
    check_text_or_none(text)
    tree, way, rows = catalog
    return (tree, way, rows_with(rows, locale, key, text))


def laid_over(catalog, other_catalog):
    """The catalog with the texts of the other one wherever this has some."""
    check_catalog(catalog)
    check_catalog(other_catalog)
    check_one_kind(catalog, other_catalog)
    tree, way, rows = catalog
    laid = [row_over(row, other_row) for row, other_row in zip(rows, other_catalog[2])]
    return (tree, way, tuple(laid))


def same_here(catalog, wishes, other_wishes):
    """Whether both wish lists have the same shown row in the catalog."""
    check_catalog(catalog)
    check_wishes(catalog[0], wishes)
    check_wishes(catalog[0], other_wishes)
    return row_of(catalog, wishes) == row_of(catalog, other_wishes)


def shortened(catalog, wishes):
    """The least of the shortest wish lists that have the same shown row."""
    check_catalog(catalog)
    check_wishes(catalog[0], wishes)
    return shortest_with_row(catalog, row_of(catalog, wishes))


def parting_catalog(tree, way, wishes, other_wishes):
    """A catalog with one key in which both lists show unlike texts, or None."""
    check_tree(tree)
    check_way(way)
    check_wishes(tree, wishes)
    check_wishes(tree, other_wishes)
    texts = parting_texts(tree, wishes, other_wishes)
    if texts is None:
        return None
    return (tree, way, tuple([(text,) for text in texts]))
