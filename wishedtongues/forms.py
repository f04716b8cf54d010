"""Forms of catalogs, which tell the alike ones; all arguments are taken to be valid.

The form of a catalog has a row for each locale, the root's first. Two catalogs
of one kind have equal forms exactly if they are alike (F3, F5).
"""

from wishedtongues.paths import path_of
from wishedtongues.showing import first_text, row_of, skips


def form_of(catalog):
    """The form of a catalog."""
    if catalog[1] == "key":
        return keyed_form(catalog)
    return bundled_form(catalog)


def keyed_form(catalog):
    """The form for the way "key": the root's row, and the own texts of the others."""
    columns = [own_texts(catalog, key) for key in range(len(catalog[2][0]))]
    return tuple(zip(*columns))


def own_texts(catalog, key):
    """The texts of one key in the form for the way "key"."""
    tree, _, rows = catalog
    texts = [first_text(rows, path_of(tree, locale), key) for locale in range(len(tree))]
    # If all texts are the root's, each list shows it, wherever it is found.
    if all([text is None or text == texts[0] for text in texts]):
        return [texts[0]] + [None] * (len(tree) - 1)
    return texts


def bundled_form(catalog):
    """The form for the way "bundle": the rows of the locales, None for a skipped one."""
    locales = range(1, len(catalog[0]))
    root_row = row_of(catalog, ())
    rows = [None if skips(catalog, locale) else row_of(catalog, (locale,)) for locale in locales]
    # If all rows are the root's, each list shows it, whichever wish is chosen.
    if all([row is None or row == root_row for row in rows]):
        return (root_row,) + (None,) * len(rows)
    return (root_row,) + tuple(rows)
