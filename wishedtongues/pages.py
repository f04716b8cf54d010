"""Pages of keys that are shown together, and wish lists that mix tongues on them."""

from wishedtongues.catalogs import check_catalog, check_text, count_keys
from wishedtongues.errors import InvalidPage
from wishedtongues.paging import added_entries, first_mixing, is_page, mixes_page
from wishedtongues.rows import rows_with
from wishedtongues.trees import check_wishes


def check_page(catalog, page):
    """Raise InvalidPage unless this is a page of the catalog."""
    if not is_page(count_keys(catalog), page):
        raise InvalidPage("this is no page of the catalog")


def mixes(catalog, wishes, page):
    """Whether the wish list shows texts of unlike tongues on the page."""
    check_catalog(catalog)
    check_wishes(catalog[0], wishes)
    check_page(catalog, page)
    return mixes_page(catalog, wishes, page)


def mixing(catalog, page):
    """The least of the shortest wish lists that mix the page, or None."""
    check_catalog(catalog)
    check_page(catalog, page)
    return first_mixing(catalog, page)


def fewest_added(catalog, page):
    """How many entries must be added at least so that the page cannot be mixed."""
    check_catalog(catalog)
    check_page(catalog, page)
    return len(added_entries(catalog, page))


def completed(catalog, page, text):
    """The catalog with the fewest more entries, of this text, so that the page cannot be mixed."""
    check_catalog(catalog)
    check_page(catalog, page)
    check_text(text)
    tree, way, rows = catalog
    filled = rows
    for locale, key in added_entries(catalog, page):
        filled = rows_with(filled, locale, key, text)
    return (tree, way, filled)
