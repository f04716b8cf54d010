"""What a wish list shows in a catalog; all arguments are taken to be valid."""

from wishedtongues.paths import longer, looked_of, path_of


def first_place(rows, locales, key):
    """The first of the locales with a text for the key, or None."""
    for locale in locales:
        if rows[locale][key] is not None:
            return locale
    return None


def first_text(rows, locales, key):
    """The text of the first of the locales with a text for the key, or None."""
    locale = first_place(rows, locales, key)
    if locale is None:
        return None
    return rows[locale][key]


def skips(catalog, locale):
    """Whether there is no entry of any key on the path of the locale."""
    tree, _, rows = catalog
    for step in path_of(tree, locale):
        for text in rows[step]:
            if text is not None:
                return False
    return True


def chosen_of(catalog, wishes):
    """The index of the first wish that is not skipped, or None."""
    for index, wish in enumerate(wishes):
        if not skips(catalog, wish):
            return index
    return None


def sought(catalog, wishes):
    """The locales at which the wish list looks for each text, in sequence."""
    tree, way, _ = catalog
    if way == "key":
        return looked_of(tree, wishes)
    index = chosen_of(catalog, wishes)
    if index is None:
        return (0,)
    return looked_of(tree, (wishes[index],))


def row_of(catalog, wishes):
    """The tuple of what the wish list shows for each key."""
    rows = catalog[2]
    locales = sought(catalog, wishes)
    return tuple([first_text(rows, locales, key) for key in range(len(rows[0]))])


def first_with_row(catalog, lists, row):
    """The first of the wish lists that shows this row, or None."""
    for wishes in lists:
        if row_of(catalog, wishes) == row:
            return wishes
    return None


def shortest_with_row(catalog, row):
    """The least of the shortest wish lists that show this row, which one must show."""
    # A shortest list is slim, as its slim list shows the same; so it is among these.
    lists = [()]
    found = first_with_row(catalog, lists, row)
    while found is None:
        lists = longer(catalog[0], lists)
        found = first_with_row(catalog, lists, row)
    return found


def parting_texts(tree, wishes, other_wishes):
    """For each locale a text or None, so that both lists show unlike ones, or None.

    With one key, both ways show the first text of the locales looked at. So the
    first locales in which these differ get a text each.
    """
    locales = looked_of(tree, wishes)
    other_locales = looked_of(tree, other_wishes)
    if locales == other_locales:
        return None
    at = 0
    while locales[at:at + 1] == other_locales[at:at + 1]:
        at += 1
    texts = [None] * len(tree)
    # One of both may be at its end here; then it shows no text.
    if at < len(locales):
        texts[locales[at]] = 0
    if at < len(other_locales):
        texts[other_locales[at]] = 1
    return tuple(texts)
