"""Rows of a catalog, and their entries; all arguments are taken to be valid."""


def entries_of(rows):
    """The ascending list of the entries."""
    found = []
    for locale, row in enumerate(rows):
        for key, text in enumerate(row):
            if text is not None:
                found.append((locale, key))
    return found


def row_with(row, key, text):
    """The row with this text for the key."""
    return row[:key] + (text,) + row[key + 1:]


def rows_with(rows, locale, key, text):
    """The rows with this text, or None, for the locale and the key."""
    return rows[:locale] + (row_with(rows[locale], key, text),) + rows[locale + 1:]


def row_over(row, other_row):
    """The row with the texts of the other one wherever this has some."""
    return tuple([under if over is None else over for under, over in zip(row, other_row)])


def row_beyond(row, other_row):
    """The row with those of its texts alone that are unlike the other one's."""
    return tuple([None if text == other_text else text for text, other_text in zip(row, other_row)])


def keys_with_text(row):
    """The ascending list of the keys for which the row has a text."""
    return [key for key, text in enumerate(row) if text is not None]
