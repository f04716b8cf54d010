"""The least catalogs that are alike (F4, F6); all arguments are taken to be valid."""

from wishedtongues.forms import form_of
from wishedtongues.rows import entries_of, keys_with_text, row_beyond, row_with, rows_with


def without_entry(catalog, entry):
    """The catalog without one of its entries."""
    tree, way, rows = catalog
    locale, key = entry
    return (tree, way, rows_with(rows, locale, key, None))


def is_needless(catalog, entry):
    """Whether the catalog without the entry is alike to it."""
    return form_of(without_entry(catalog, entry)) == form_of(catalog)


def needless_entries(catalog):
    """The ascending list of the needless entries."""
    return [entry for entry in entries_of(catalog[2]) if is_needless(catalog, entry)]


def row_above(catalog, form, locale):
    """The row in the form that the locale would have if it had no entries of its own."""
    tree, way, _ = catalog
    parent = tree[locale]
    if way == "bundle":
        return form[0] if form[parent] is None else form[parent]
    # The root is on no path but its own, so it gives no own text to the ones below.
    return (None,) * len(form[0]) if parent == 0 else form[parent]


def stands_alone(catalog, form, locale):
    """Whether the locale is skipped unless it has an entry of its own."""
    parent = catalog[0][locale]
    return parent == 0 or form[parent] is None


def holders_of(catalog, form):
    """The locales that need an entry, for any key, only so that they are not skipped."""
    if catalog[1] == "key":
        return []
    return [locale for locale in range(1, len(form))
            if form[locale] == form[0] and stands_alone(catalog, form, locale)]


def bare_rows(catalog, form):
    """The rows of all least alike catalogs, without the entries of the holders."""
    rows = [form[0]]
    for locale in range(1, len(form)):
        if form[locale] is None:
            rows.append((None,) * len(form[0]))
        else:
            rows.append(row_beyond(form[locale], row_above(catalog, form, locale)))
    return rows


def least_count(catalog, form):
    """How many least alike catalogs there are."""
    many = 1
    for _ in holders_of(catalog, form):
        many = many * len(keys_with_text(form[0]))
    return many


def nth_least(catalog, form, number):
    """The least alike catalog with this number, ascending by their entries."""
    tree, way, _ = catalog
    rows = bare_rows(catalog, form)
    keys = keys_with_text(form[0])
    rest = number
    # The keys of the holders are the digits of the number, the last one's behind.
    for locale in holders_of(catalog, form)[::-1]:
        rest, at = divmod(rest, len(keys))
        rows[locale] = row_with(rows[locale], keys[at], form[0][keys[at]])
    return (tree, way, tuple(rows))


def least_of(catalog):
    """The first one of the least alike catalogs."""
    return nth_least(catalog, form_of(catalog), 0)
