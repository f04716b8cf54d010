"""What parts two catalogs of one kind; all arguments are taken to be valid.

If some wish list shows unlike texts, so does one of at most two wishes (F2).
"""

from wishedtongues.paths import short_lists
from wishedtongues.showing import row_of

ENOUGH_WISHES = 2


def unlike_key(row, other_row):
    """The least key for which the rows are unlike, or None."""
    for key, text in enumerate(row):
        if text != other_row[key]:
            return key
    return None


def lacking_key(row, other_row):
    """The least key with a text that is not in the other row, too, or None."""
    for key, text in enumerate(row):
        if text is not None and text != other_row[key]:
            return key
    return None


def first_parting(catalog, other_catalog):
    """The first wish list and key for which the catalogs show unlike texts, or None."""
    for wishes in short_lists(catalog[0], ENOUGH_WISHES):
        key = unlike_key(row_of(catalog, wishes), row_of(other_catalog, wishes))
        if key is not None:
            return (wishes, key)
    return None


def first_lacking(catalog, other_catalog):
    """The first wish list and key whose text the other catalog does not show, or None."""
    for wishes in short_lists(catalog[0], ENOUGH_WISHES):
        key = lacking_key(row_of(catalog, wishes), row_of(other_catalog, wishes))
        if key is not None:
            return (wishes, key)
    return None
