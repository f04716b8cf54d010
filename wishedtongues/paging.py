"""Pages that show two tongues at once; all arguments are taken to be valid."""

from wishedtongues.kinds import is_ascending, is_integer_within, is_tuple
from wishedtongues.paths import path_of, short_lists
from wishedtongues.showing import first_place, sought


def is_page(many, value):
    """Whether any value is a page of a catalog with so many keys."""
    if not is_tuple(value) or len(value) == 0:
        return False
    if not all([is_integer_within(key, 0, many - 1) for key in value]):
        return False
    return is_ascending(value)


def tongue_of(tree, locale):
    """The last locale of the path of the locale."""
    return path_of(tree, locale)[-1]


def mixes_page(catalog, wishes, page):
    """Whether the wish list mixes the page."""
    tree, _, rows = catalog
    locales = sought(catalog, wishes)
    places = [first_place(rows, locales, key) for key in page]
    tongues = [tongue_of(tree, place) for place in places if place is not None]
    return any([tongue != tongues[0] for tongue in tongues])


def first_mixing(catalog, page):
    """The least of the shortest wish lists that mix the page, or None."""
    # So many wishes are enough (F8).
    longest = 2 if catalog[1] == "key" else 1
    for wishes in short_lists(catalog[0], longest):
        if mixes_page(catalog, wishes, page):
            return wishes
    return None


def has_any(row, page):
    """Whether the row has a text for a key of the page."""
    return any([row[key] is not None for key in page])


def keys_to_have(catalog, page):
    """The keys of the page of which a locale must have all if it has one."""
    rows = catalog[2]
    if catalog[1] == "bundle":
        return [key for key in page if rows[0][key] is not None]
    return [key for key in page if any([row[key] is not None for row in rows])]


def is_in_one_tongue(catalog, page):
    """Whether all entries of the keys of the page lie in one tongue."""
    tree, _, rows = catalog
    tongues = [tongue_of(tree, locale) for locale, row in enumerate(rows) if has_any(row, page)]
    return all([tongue == tongues[0] for tongue in tongues])


def lacked_by(rows, locale, keys):
    """The entries that the locale lacks to have all of these keys."""
    return [(locale, key) for key in keys if rows[locale][key] is None]


def added_below(catalog, page, keys):
    """The fewest entries that must be added below the root so that it cannot be mixed (F9)."""
    tree, _, rows = catalog
    below = [[] for _ in tree]
    # A locale comes behind its parent, so all that is below it is done before it.
    for locale in range(len(tree) - 1, 0, -1):
        added = lacked_by(rows, locale, keys)
        # Without entries of its own a locale can leave all to those below it.
        if not has_any(rows[locale], page) and len(below[locale]) < len(added):
            added = below[locale]
        below[tree[locale]] = below[tree[locale]] + added
    return below[0]


def added_entries(catalog, page):
    """The fewest entries that must be added so that the page cannot be mixed (F9)."""
    rows = catalog[2]
    keys = keys_to_have(catalog, page)
    if catalog[1] == "bundle":
        return added_below(catalog, page, keys)
    if is_in_one_tongue(catalog, page):
        return []
    added = added_below(catalog, page, keys)
    if has_any(rows[0], page):
        added = added + lacked_by(rows, 0, keys)
    return added
